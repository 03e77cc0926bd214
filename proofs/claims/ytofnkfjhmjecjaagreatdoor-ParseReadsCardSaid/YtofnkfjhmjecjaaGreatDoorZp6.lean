/-
  Texts of mine put together, in build order.
  Conditions: as each declaration says.
-/
import Derived.Deep.QuietTactic
import Derived.Deep.DeepCutAuto
import Derived.Maps.AppendAt
import Derived.Test.YtofnkfjhmjecjaaGreatDoorZp1
import Derived.Test.YtofnkfjhmjecjaaGreatDoorZp3
import Derived.Test.YtofnkfjhmjecjaaGreatDoorZp5
namespace Go.Proofs.YtofnkfjhmjecjaaGreatDoor
set_option maxRecDepth 100000
open Go.RowKit Go.Joins Go.ChangeShapes Go.WideShapes
set_option linter.unusedVariables false
set_option linter.unusedSimpArgs false
theorem tokL_err (l : List Nat) (hl : l ≠ []) (e : Nat) (h : tokL l = .error e) : 0 < e ∧ e ≤ 122 := by
 cases l with
 | nil => exact absurd rfl hl
 | cons c r =>
  rw [tokL_cons, tokC_eq] at h
  repeat' split at h
  all_goals first
   | (injection h with h; omega)
   | (cases h; done)
theorem tokL_len (l : List Nat) (t : Tk) (k : Nat) (h : tokL l = .ok (t, k)) : k ≤ l.length ∧ 0 < k := (tokL_app (e := 32) rfl [] l t k h).2
structure TkS (w wr : World) (rd b : Nat) (l : List Nat) (v : Value) (ts : List Tk) (k off cap : Nat) : Prop where
 own : OwT wr (w.heap.size + 2) v ts
 rds : Rd wr rd b off cap (l.drop k)
 kl : k ≤ l.length
 al : ts.length ≤ k
 eq : lexL l = preT ts (lexL (l.drop k))
 hd : l.drop k = [] ∨ ∃ c r, l.drop k = c :: r ∧ blL c = false
 bel : Below w.heap.size w wr
 er : ErrR wr
def TksP (x : Except Nat (List Tk)) (w : World) (e : Ending) (w' : World) : Prop := Below w.heap.size w w' ∧ match x with
 | .error er => e = .returned (.tuple #[.slice none 0 0, .int .i64 (er : Int)])
 | .ok ts => ∃ v, e = .returned (.tuple #[v, .int .i64 0]) ∧ OwT w' w.heap.size v ts
set_option maxHeartbeats 4000000 in
theorem tokens_any (s : ByteArray) (w : World) (hE : ErrR w) :
  Calls Tryz.prog 18 #[.string s] w (TksP (toksE (sl s)) w) := by
 have hEl := hE.lt
 have HE0 := Lib.hid hE
 generalize hP : TksP (toksE (sl s)) w = P
 have HP := Lib.hid hP
 clear hP
 by_cases hlong : s.size > 4000
 ·have hX : P (.returned (.tuple #[.slice none 0 0, .int .i64 1])) w := by
   rw [← HP.out]
   unfold toksE
   rw [sl_length, if_pos hlong]
   exact ⟨Below.refl _ _, rfl⟩
  have HX := Lib.hid hX
  have k1 : decide ((4000 : Int) < (s.size : Int)) = true := by simp; omega
  clear hX
  go_enter Tryz.func18, Tryz.ntmps18
  go_wp2_with fail
  exact HX.out
 ·have k1 : decide ((4000 : Int) < (s.size : Int)) = false := by simp; omega
  obtain ⟨cap, w1, hcv, hc1, hc2, hs1, b1, is1⟩ := conv_b s w (by unfold maxLen; omega)
  have hbA : Below w1.heap.size w1 (w1.alloc (.cells #[.slice (some ⟨w.heap.size, 0, none⟩) s.size cap] 80)) := (Below.refl _ _).alloc (Nat.le_refl _) _
  have hR : Rd (w1.alloc (.cells #[.slice (some ⟨w.heap.size, 0, none⟩) s.size cap] 80)) w1.heap.size w.heap.size 0 cap (sl s) :=
   ⟨by rw [sl_length]; exact heap_alloc_new w1 _, is1.below hbA, by rw [sl_length]; exact hc1, hc2, by rw [sl_length]; omega, by omega⟩
  have hB2 : Below w.heap.size w (w1.alloc (.cells #[.slice (some ⟨w.heap.size, 0, none⟩) s.size cap] 80)) := b1.trans (hbA.mono (by omega))
  obtain ⟨rd, hrdd⟩ : ∃ rd, w1.heap.size = rd := ⟨_, rfl⟩
  have hrd1 : w.heap.size < rd := by omega
  have hrd2 : rd < w.heap.size + 2 := by omega
  rw [hrdd] at hR
  have HT := Lib.hid (pass_any blank_any (enters_of Tryz.func36 (by kernel_rfl) rfl) hR)
  have HB2 := Lib.hid hB2
  have HE2 := Lib.hid (hE.below hB2)
  have hsz2 : (w1.alloc (.cells #[.slice (some ⟨w.heap.size, 0, none⟩) s.size cap] 80)).heap.size = w.heap.size + 2 := by simp; omega
  have HSZ2 := Lib.hid hsz2
  clear hR hB2 hbA b1 is1 hsz2 hE hs1 hc1 hc2
  go_enter Tryz.func18, Tryz.ntmps18
  go_wp2_with fail
  generalize w1.alloc (.cells #[.slice (some ⟨w.heap.size, 0, none⟩) s.size cap] 80) = w2 at *
  try go_at_call 35
  refine HT.out.mono ?_
  rintro e w3 ⟨rfl, off3, cap3, r3, f3⟩
  have HS0 : Hid (TkS w w3 rd w.heap.size (sl s) (.slice none 0 0) [] (runL blL (sl s)) off3 cap3) := Lib.hid
   ⟨OwT.nil _ _, r3, runL_le _ _, Nat.zero_le _, by rw [preT_nil]; exact lexL_run _, run_head _, HB2.out.trans (f3.below (fun k hk => by subst hk; omega) (by have := HSZ2.out; omega)), HE2.out.frm f3 (by show ¬ _ = _; omega)⟩
  clear r3 f3
  go_wp2_with fail
  go_loopw [4] (fun v wr => ∃ ts k off cap, TkS w wr rd w.heap.size (sl s) v ts k off cap) (fun _ wr => lenAt wr rd)
  case atStart => exact ⟨_, _, _, _, HS0.out⟩
  case round =>
   obtain ⟨ts, k, off5, cap5, hs⟩ := hrel
   have c0 : wr.cell? ⟨rd, 0, none⟩ = some (.slice (some ⟨w.heap.size, 0 + off5, none⟩) ((sl s).drop k).length cap5) := by rw [cell_of_block hs.rds.hd, Nat.zero_add]; rfl
   rw [Nat.zero_add] at c0
   have HS := Lib.hid hs
   have hhd := hs.hd
   have hlen := hs.rds.len
   clear hs
   rcases hhd with e | ⟨c, r, e, hbl⟩
   ·rw [e] at c0
    have c0 : wr.cell? ⟨rd, 0, none⟩ = some (.slice (some ⟨w.heap.size, off5, none⟩) 0 cap5) := c0
    have hX : P (.returned (.tuple #[u4, .int .i64 0])) wr := by
     have heq := HS.out.eq
     rw [e, lexL_nil] at heq
     rw [← HP.out]
     unfold toksE
     rw [sl_length, if_neg hlong, heq]
     exact ⟨HS.out.bel, u4, rfl, by
      have := HS.out.own.le (B' := w.heap.size) (by omega)
      simpa using this⟩
    have HX := Lib.hid hX
    clear hX e hlen
    go_wp2_with fail
    exact HX.out
   ·have hrds := HS.out.rds
    rw [e] at hrds
    have HRD := Lib.hid hrds
    have HT := Lib.hid (token_any hrds HS.out.er (by omega))
    have hkl : k + (r.length + 1) = s.size := by
     have := congrArg List.length e
     rw [List.length_drop, sl_length] at this
     have h2 := HS.out.kl
     rw [sl_length] at h2
     simp only [List.length_cons] at this
     omega
    rw [e] at c0
    obtain ⟨n, hn⟩ : ∃ n, (c :: r).length = n := ⟨_, rfl⟩
    have hnp : (0 : Int) < (n : Int) := by rw [← hn]; simp
    rw [hn] at c0
    have HN := Lib.hid hn
    have HEe := Lib.hid e
    have hlt := lexL_tok c r hbl
    have HLT := Lib.hid hlt
    clear hrds hn e hlt
    cases htk : tokL (c :: r) with
    | error er =>
     rw [htk] at HT HLT
     have her := tokL_err _ (by simp) er htk
     have hne : ((er : Int) != 0) = true := by simp; omega
     have hne2 : ((er : Int) == 0) = false := beq_eq_false_iff_ne.2 (by omega)
     go_wp2_with fail
     try go_at_call 37
     refine HT.out.mono ?_
     rintro ee w6 ⟨rfl, f6⟩
     have hX : P (.returned (.tuple #[.slice none 0 0, .int .i64 (er : Int)])) (w6.alloc (.cells #[.int .i64 0, .string ⟨#[]⟩, .int .i64 0, .int .i64 0] 84)) := by
      rw [← HP.out]
      unfold toksE
      rw [sl_length, if_neg hlong, HS.out.eq, HEe.out, HLT.out]
      exact ⟨(HS.out.bel.trans (f6.below (fun k hk => by subst hk; omega) (by have := HS.out.bel.size; omega))).alloc (by have := f6.size; have := HS.out.bel.size; omega) _, rfl⟩
     have HX := Lib.hid hX
     clear hX f6 hlen
     unfold Tkv
     go_wp2_with fail
     exact HX.out
    | ok x =>
     obtain ⟨t, k2⟩ := x
     rw [htk] at HT HLT
     obtain ⟨hk2, hk0⟩ := tokL_len _ t k2 htk
     go_wp2_with fail
     try go_at_call 37
     refine HT.out.mono ?_
     rintro ee w6 ⟨rfl, off6, cap6, r6, f6⟩
     have HR6 := Lib.hid r6
     have F6 := Lib.hid f6
     have hs6 := f6.size
     have hsw := HS.out.bel.size
     have hbox : w.heap.size + 2 ≤ wr.heap.size := by
      have := (Array.getElem?_eq_some_iff.1 HRD.out.hd).1
      omega
     have own6 := Frm.owT f6 HS.out.own (fun g hg => by have := (HS.out.own.lt g hg).1; show ¬ g = rd; omega)
     have HO6 := Lib.hid own6
     have hbw6 : Below w.heap.size w w6 := HS.out.bel.trans (f6.below (fun k hk => by subst hk; omega) (by omega))
     have HBW6 := Lib.hid hbw6
     have HER6 := Lib.hid (HS.out.er.frm f6 (by show ¬ _ = _; omega))
     obtain ⟨w7, hw7⟩ : ∃ w7, w6.alloc (.cells #[.int .i64 (t.kind : Int), .string (strB t.text), .int .i64 (t.num : Int), .int .i64 (t.scale : Int)] 84) = w7 := ⟨_, rfl⟩
     have b7 : Below w6.heap.size w6 w7 := by rw [← hw7]; exact (Below.refl _ _).alloc (Nat.le_refl _) _
     have n7 : TBox w7 w6.heap.size (t.kind : Int) (t.num : Int) (t.scale : Int) (strB t.text) := by rw [← hw7]; exact heap_alloc_new w6 (.cells #[.int .i64 (t.kind : Int), .string (strB t.text), .int .i64 (t.num : Int), .int .i64 (t.scale : Int)] 84)
     obtain ⟨⟨x0, x1, x2, x3⟩, y0, y1, y2, y3⟩ := n7.cells
     obtain ⟨w8, hw8⟩ : ∃ w8, w7.alloc (.cells #[.int .i64 (t.kind : Int), .string (strB t.text), .int .i64 (t.num : Int), .int .i64 (t.scale : Int)] 84) = w8 := ⟨_, rfl⟩
     have b8 : Below w7.heap.size w7 w8 := by rw [← hw8]; exact (Below.refl _ _).alloc (Nat.le_refl _) _
     have hnews : ∀ j x, (tkcells [t])[j]? = some x → w8.cell? ((⟨w7.heap.size, 0, none⟩ : Addr).add j) = some x := by rw [← hw8]; exact newsT w7 t
     have b68 : Below w6.heap.size w6 w8 := b7.trans (b8.mono b7.size)
     have HNW := Lib.hid hnews
     have HO8 := Lib.hid (own6.below b68)
     have HB68 := Lib.hid b68
     have hs8 := b68.size
     have hal : ts.length + 1 ≤ 4294967297 := by have := HS.out.al; have := HS.out.kl; rw [sl_length] at this; omega
     clear r6 f6 own6 hbw6 b7 n7 b8 hnews b68 hlen c0
     unfold Tkv
     go_wp2_with (first | (at_builtin; refine wp_pushT rfl _ _ rfl (w.heap.size + 2) u4 ts rfl HO8.out (by omega) ⟨w7.heap.size, 0, none⟩ 1 1 [t] rfl rfl HNW.out hal ?_; intro v9 w9 own9 gr9; have HX9 := Lib.hid (And.intro own9 gr9); clear own9 gr9))
     clear x0 x1 x2 x3 y0 y1 y2 y3
     have r9 := (HR6.out.below HB68.out).grown HX9.out.2 (fun g hg => by have := (HO8.out.lt g hg).1; omega)
     have bw9 : Below w.heap.size w w9 := (HBW6.out.trans (HB68.out.mono (by omega))).grown HX9.out.2 (by omega) (fun g hg => by have := (HO8.out.lt g hg).1; omega)
     have hs9 := HX9.out.2.size
     have HTb := Lib.hid (pass_any blank_any (enters_of Tryz.func36 (by kernel_rfl) rfl) r9)
     have HBW9 := Lib.hid bw9
     clear r9 bw9
     try go_at_call 35
     refine HTb.out.mono ?_
     rintro ee w10 ⟨rfl, off10, cap10, r10, f10⟩
     have hb10 : Below w.heap.size w w10 := HBW9.out.trans (f10.below (fun k hk => by subst hk; omega) (by omega))
     have hdr : (sl s).drop (k + k2 + runL blL ((c :: r).drop k2)) = ((c :: r).drop k2).drop (runL blL ((c :: r).drop k2)) := by
      rw [← List.drop_drop, ← List.drop_drop, HEe.out]
     have hq := runL_le blL ((c :: r).drop k2)
     rw [List.length_drop] at hq
     have hER9 : ErrR w10 := HE0.out.below hb10
     rw [← hdr] at r10
     have HR10 := Lib.hid r10
     have O10 := Frm.owT f10 HX9.out.1 (fun g hg => by have := (HX9.out.1.lt g hg).1; show ¬ g = rd; omega)
     have heq10 : lexL (sl s) = preT (ts ++ [t]) (lexL ((sl s).drop (k + k2 + runL blL ((c :: r).drop k2)))) := by
      rw [HS.out.eq, HEe.out, HLT.out, hdr]
      show preT ts (preT [t] _) = _
      rw [preT_preT, lexL_run ((c :: r).drop k2)]
     have hk10 : k + k2 + runL blL ((c :: r).drop k2) ≤ (sl s).length := by
      rw [sl_length]
      simp only [List.length_cons] at hk2 hq
      omega
     go_wp2_with fail
     go_roundw
     case rel => exact ⟨ts ++ [t], k + k2 + runL blL ((c :: r).drop k2), off10, cap10, O10, HR10.out, hk10, by have := HS.out.al; simp; omega, heq10, by rw [hdr]; exact run_head _, hb10, hER9⟩
     case measure =>
      rw [HR10.out.len, List.length_drop, sl_length, HRD.out.len]
      simp only [List.length_cons] at hk2 ⊢
      omega
end Go.Proofs.YtofnkfjhmjecjaaGreatDoor

namespace Go.Proofs.YtofnkfjhmjecjaaGreatDoor
set_option maxRecDepth 100000
open Go.RowKit Go.Joins Go.ChangeShapes Go.WideShapes
set_option linter.unusedVariables false
set_option linter.unusedSimpArgs false
def LtA (w : World) (a : Option Addr) (ts : List Tk) : Prop := (a = none ∧ ts = []) ∨ ∃ g, a = some ⟨g, 0, none⟩ ∧ g < w.heap.size ∧ ∀ j u, (tkcells ts)[j]? = some u → w.cell? ⟨g, j, none⟩ = some u
theorem OwT.lta {w : World} {B : Nat} {v : Value} {l : List Tk} (h : OwT w B v l) : ∃ a cap, v = .slice a l.length cap ∧ LtA w a l := by
 obtain ⟨a, cap, rfl, hf⟩ := h.form
 refine ⟨a, cap, rfl, ?_⟩
 rcases hf with ⟨h1, h2, _⟩ | ⟨g, h1, _, h3, _, h5⟩
 ·exact .inl ⟨h1, h2⟩
 ·exact .inr ⟨g, h1, h3, h5⟩
end Go.Proofs.YtofnkfjhmjecjaaGreatDoor

namespace Go.Proofs.YtofnkfjhmjecjaaGreatDoor
set_option maxRecDepth 100000
open Go.RowKit Go.Joins Go.ChangeShapes Go.WideShapes
set_option linter.unusedVariables false
set_option linter.unusedSimpArgs false
structure RK (P : Program) (α : Type) where
 enc : α → List Value
 n : Nat
 te : TypeId
 ts : TypeId
 bytes : Nat
 z : Value
 len : ∀ x, (enc x).length = n
 one : ∀ x, ∀ u ∈ enc x, u.oneCell' = true
 pos : 0 < n
 by0 : bytes ≤ 1024
 hu : P.underlying ts = some (.slice te)
 info : (P.info? te).map (fun i => (i.zero, i.size, i.bytes)) = some (some z, n, bytes)
 zc : z.cells.size = n
section
variable {P : Program} {α : Type} (K : RK P α)
def RK.cells (l : List α) : List Value := l.flatMap K.enc
theorem RK.cells_length (l : List α) : (K.cells l).length = l.length * K.n := by
 induction l with
 | nil => simp [RK.cells]
 | cons x r ih =>
  have : K.cells (x :: r) = K.enc x ++ K.cells r := rfl
  rw [this, List.length_append, ih, K.len, List.length_cons, Nat.add_mul]; omega
theorem RK.cells_app (l r : List α) : K.cells (l ++ r) = K.cells l ++ K.cells r := by unfold RK.cells; rw [List.flatMap_append]
theorem RK.cells_at : ∀ (l : List α) (i j : Nat) (x : α), l[i]? = some x → j < K.n → (K.cells l)[i * K.n + j]? = (K.enc x)[j]?
 | [], i, j, x, h, hj => by simp at h
 | y :: r, 0, j, x, h, hj => by
  simp at h
  subst h
  rw [show K.cells (y :: r) = K.enc y ++ K.cells r from rfl, Nat.zero_mul, Nat.zero_add, List.getElem?_append_left (by rw [K.len]; exact hj)]
 | y :: r, i + 1, j, x, h, hj => by
  rw [List.getElem?_cons_succ] at h
  rw [show K.cells (y :: r) = K.enc y ++ K.cells r from rfl, List.getElem?_append_right (by rw [K.len, Nat.add_mul]; omega), K.len, ← RK.cells_at r i j x h hj]
  congr 1
  rw [Nat.add_mul]; omega
theorem RK.cells_mem (l : List α) : ∀ u ∈ K.cells l, u.oneCell' = true := by
 intro u hu
 unfold RK.cells at hu
 obtain ⟨x, -, hx⟩ := List.mem_flatMap.1 hu
 exact K.one x u hx
def OwR (K : RK P α) (w : World) (B : Nat) (v : Value) (l : List α) : Prop := w.ownsRow B K.te K.n v l.length (K.cells l)
variable {K}
theorem OwR.nil (w : World) (B : Nat) : OwR K w B (.slice none 0 0) [] := World.ownsRow_nil w B _ _
theorem OwR.cases {w : World} {B : Nat} {v : Value} {l : List α} (h : OwR K w B v l) : (v = .slice none 0 0 ∧ l = []) ∨
  ∃ (g cap : Nat) (cur : List Value), v = .slice (some ⟨g, 0, none⟩) l.length cap ∧ B ≤ g ∧ w.heap[g]? = some (.cells cur.toArray K.te (0, 0)) ∧ l.length ≤ cap ∧ cap ≤ maxLen ∧ cur.length = cap * K.n ∧ cur.take (l.length * K.n) = K.cells l := by
 rcases h.2 with ⟨rfl, e⟩ | ⟨g, cap, cur, rfl, hb, hg, hn, hc, hs, ht⟩
 ·exact .inl ⟨rfl, List.eq_nil_of_length_eq_zero e⟩
 ·exact .inr ⟨g, cap, cur.toList, rfl, hb, by simpa using hg, hn, hc, by simpa using hs, ht⟩
theorem OwR.mk {w : World} {B g cap : Nat} {cur : List Value} {l : List α} (hb : B ≤ g) (hg : w.heap[g]? = some (.cells cur.toArray K.te (0, 0))) (hn : l.length ≤ cap) (hc : cap ≤ maxLen) (hs : cur.length = cap * K.n) (ht : cur.take (l.length * K.n) = K.cells l) :
  OwR K w B (.slice (some ⟨g, 0, none⟩) l.length cap) l :=
 ⟨K.cells_length l, .inr ⟨g, cap, cur.toArray, rfl, hb, hg, hn, hc, by simpa using hs, by simpa using ht⟩⟩
theorem OwR.made (w : World) {B : Nat} (hB : B ≤ w.heap.size) (l : List α) (hl : l.length ≤ maxLen) : OwR K (w.alloc (.cells (K.cells l).toArray K.te)) B (.slice (some ⟨w.heap.size, 0, none⟩) l.length l.length) l :=
 OwR.mk hB (heap_alloc_new w _) (Nat.le_refl _) hl (K.cells_length l) (List.take_of_length_le (Nat.le_of_eq (K.cells_length l)))
theorem OwR.lt {w : World} {B : Nat} {v : Value} {l : List α} (h : OwR K w B v l) {k : Nat} (hk : v.ownBlock = some k) : B ≤ k ∧ k < w.heap.size ∧ ∃ cur, w.heap[k]? = some (.cells cur K.te (0, 0)) := by
 rcases h.cases with ⟨rfl, -⟩ | ⟨g, cap, cur, rfl, hb, h2, -⟩
 ·simp [Value.ownBlock] at hk
 ·simp only [Value.ownBlock, Option.some.injEq] at hk
  subst hk
  exact ⟨hb, (Array.getElem?_eq_some_iff.1 h2).1, _, h2⟩
theorem OwR.step {w w1 : World} {B : Nat} {v : Value} {l : List α} {F : Bl} (h : OwR K w B v l) (hf : Frm F w w1) (hv : ∀ k, v.ownBlock = some k → ¬ F k) : OwR K w1 B v l := hf.ownsRow h hv
theorem OwR.below {w w1 : World} {B : Nat} {v : Value} {l : List α} (h : OwR K w B v l) (hb : Below w.heap.size w w1) : OwR K w1 B v l := h.step (F := fun _ => False) (Frm.of_below hb) (fun _ _ e => e)
theorem OwR.sl {w : World} {B : Nat} {v : Value} {l : List α} (h : OwR K w B v l) : ∃ a c, v = .slice a l.length c ∧ l.length ≤ c ∧ c ≤ maxLen := by
 rcases h.cases with ⟨rfl, rfl⟩ | ⟨g, cap, cur, rfl, -, -, hn, hc, -⟩
 ·exact ⟨_, _, rfl, Nat.le_refl _, by decide⟩
 ·exact ⟨_, _, rfl, hn, hc⟩
theorem RK.parts (K : RK P α) : ∃ i0, P.info? K.te = some i0 ∧ i0.zero = some K.z ∧ i0.size = K.n ∧ i0.bytes = K.bytes := by
 have h := K.info
 cases e : P.info? K.te with
 | none => rw [e] at h; simp at h
 | some i0 =>
  rw [e] at h
  simp only [Option.map_some, Option.some.injEq, Prod.mk.injEq] at h
  exact ⟨i0, rfl, h.1, h.2.1, h.2.2⟩
def NewR (w : World) (v v' : Value) : Prop := ∀ k, v'.ownBlock = some k → v.ownBlock = some k ∨ w.heap.size ≤ k
theorem OwR.append (w : World) (B : Nat) (v : Value) (l : List α) (hown : OwR K w B v l) (hB : B ≤ w.heap.size) (ad : Addr) (m c : Nat) (rs : List α) (hm : rs.length = m)
  (hnews : ∀ j u, (K.cells rs)[j]? = some u → w.cell? (ad.add j) = some u) (hsz : l.length + m ≤ 4294967297) (ty : TypeId) :
  ∃ v' w', (Builtin.append_ #[K.ts, K.ts] ty #[v, .slice (some ad) m c]).run P w = .ok v' w' ∧ OwR K w' B v' (l ++ rs) ∧ w.grownBy w' v.ownBlock ∧ NewR w v v' := by
 obtain ⟨i0, hi, hz0, hz1, hz2⟩ := K.parts
 have hl : (K.cells rs).length = m * K.n := by rw [K.cells_length, hm]
 have hml : l.length + m ≤ maxLen := by unfold maxLen; omega
 have hby : (l.length + m) * K.bytes ≤ 140737488355328 := Nat.le_trans (Nat.mul_le_mul hsz K.by0) (by decide)
 obtain ⟨v', w', hr, h1, h2, h3, h4⟩ := run_append_own_at (P := P) (w := w) B K.ts ty K.te i0 K.z K.n K.bytes K.hu hi hz0 hz1 hz2 K.zc K.pos v l.length (K.cells l) hown ad m c (K.cells rs) hl hnews (K.cells_mem rs) hml hby hB
 refine ⟨v', w', hr, ?_, h2, fun k hk => ?_⟩
 ·unfold OwR
  rw [K.cells_app, List.length_append, hm]
  exact h1
 ·rcases h4 with e | e
  ·exact .inl (by rw [← e]; exact hk)
  ·rw [e] at hk
   injection hk with hk
   exact .inr (Nat.le_of_eq hk)
theorem OwR.wp {ops : Array Oper} {rest : List Oper} {o : Oper} {a : Act} {w : World} {Q : Exit → Act → World → Prop} (hgd : o.guard = none) (s x : Operand)
  (ho : o.op = .call { callee := .builtin .append, args := #[s, x], argTypes := #[K.ts, K.ts] })
  (B : Nat) (v : Value) (l : List α) (hs : a.eval s = v) (hown : OwR K w B v l) (hB : B ≤ w.heap.size) (ad : Addr) (m c : Nat) (rs : List α) (hm : rs.length = m) (hx : a.eval x = .slice (some ad) m c)
  (hnews : ∀ j u, (K.cells rs)[j]? = some u → w.cell? (ad.add j) = some u) (hsz : l.length + m ≤ 4294967297)
  (h : ∀ v' w', OwR K w' B v' (l ++ rs) → w.grownBy w' v.ownBlock → NewR w v v' → wpList P ops Q rest (a.put o.dst v') w') : wpList P ops Q (o :: rest) a w := by
 refine wpList_plain hgd fun K' hK' => ?_
 obtain ⟨v', w', hr, h1, h2, h3⟩ := OwR.append w B v l hown hB ad m c rs hm hnews hsz o.type
 unfold Oper.wp
 simp [execOp, ho, resolve, invoke, builtin, hs, hx, hr, Result.andThen]
 exact hK' _ _ (h v' w' h1 h2 h3)
theorem OwR.made_cells (w : World) (l : List α) : ∀ j u, (K.cells l)[j]? = some u → (w.alloc (.cells (K.cells l).toArray K.te)).cell? ((⟨w.heap.size, 0, none⟩ : Addr).add j) = some u := by
 intro j u hj
 have ea : (⟨w.heap.size, 0, none⟩ : Addr).add j = ⟨w.heap.size, j, none⟩ := by unfold Addr.add; split <;> simp_all
 rw [ea, cell_of_block (heap_alloc_new w _) j]
 simpa using hj
end
end Go.Proofs.YtofnkfjhmjecjaaGreatDoor

namespace Go.Proofs.YtofnkfjhmjecjaaGreatDoor
set_option maxRecDepth 100000
open Go.RowKit Go.Joins Go.ChangeShapes Go.WideShapes
set_option linter.unusedVariables false
set_option linter.unusedSimpArgs false
inductive XE where
 | mk (op kind num scale : Int) (text qual : ByteArray) (a : Option Addr) (cap : Nat) (args : List XE)
mutual
/-- the expression alone -/
def XE.er : XE → Ex
 | .mk op kind num scale text qual _ _ args => .mk op kind num scale text qual (XE.erL args)
def XE.erL : List XE → List Ex
 | [] => []
 | a :: r => XE.er a :: XE.erL r
end
def XE.enc : XE → List Value
 | .mk op kind num scale text qual a cap args => [.int .i64 op, .slice a args.length cap, .int .i64 kind, .int .i64 num, .int .i64 scale, .string text, .string qual]
def XE.encA : XE → Array Value
 | .mk op kind num scale text qual a cap args => #[.int .i64 op, .slice a args.length cap, .int .i64 kind, .int .i64 num, .int .i64 scale, .string text, .string qual]
def XE.val : XE → Value
 | .mk op kind num scale text qual a cap args => .agg #[.int .i64 op, .slice a args.length cap, .int .i64 kind, .int .i64 num, .int .i64 scale, .string text, .string qual]
theorem XE.encA_eq (x : XE) : x.encA = x.enc.toArray := by cases x; rfl
theorem XE.val_eq (x : XE) : x.val = .agg x.encA := by cases x; rfl
def XE.encL (l : List XE) : List Value := l.flatMap XE.enc
mutual
/-- its operands lie in blocks of K -/
def XE.Mem (K : Bl) (w : World) : XE → Prop
 | .mk _ _ _ _ _ _ a cap args => args.length ≤ cap ∧ cap ≤ maxLen ∧ (args = [] ∨ ∃ b o, a = some ⟨b, o, none⟩ ∧ K b ∧ b < w.heap.size ∧ ∀ j u, (XE.encL args)[j]? = some u → w.cell? ⟨b, o + j, none⟩ = some u) ∧ XE.MemL K w args
def XE.MemL (K : Bl) (w : World) : List XE → Prop
 | [] => True
 | x :: r => XE.Mem K w x ∧ XE.MemL K w r
end
theorem XE.enc_len (x : XE) : x.enc.length = 7 := by cases x; rfl
theorem XE.enc_one (x : XE) : ∀ u ∈ x.enc, u.oneCell' = true := by
 cases x
 intro u hu
 unfold XE.enc at hu
 simp only [List.mem_cons, List.not_mem_nil, or_false] at hu
 rcases hu with rfl | rfl | rfl | rfl | rfl | rfl | rfl <;> rfl
def xk : RK Tryz.prog XE where
 enc := XE.enc
 n := 7
 te := 30
 ts := 28
 bytes := 88
 z := .agg #[.int .i64 0, .slice none 0 0, .int .i64 0, .int .i64 0, .int .i64 0, .string ByteArray.empty, .string ByteArray.empty]
 len := XE.enc_len
 one := XE.enc_one
 pos := by decide
 by0 := by decide
 hu := Tryz.underlying28
 info := by kernel_rfl
 zc := rfl
theorem XE.erL_length : ∀ l : List XE, (XE.erL l).length = l.length
 | [] => by simp [XE.erL]
 | x :: r => by simp [XE.erL, XE.erL_length r]
theorem XE.erL_map : ∀ l : List XE, XE.erL l = l.map XE.er
 | [] => by simp [XE.erL]
 | x :: r => by simp [XE.erL, XE.erL_map r]
theorem XE.memL_iff {K : Bl} {w : World} : ∀ {l : List XE}, XE.MemL K w l ↔ ∀ x ∈ l, XE.Mem K w x
 | [] => by simp [XE.MemL]
 | x :: r => by simp [XE.MemL, XE.memL_iff (l := r)]
mutual
theorem XE.Mem.frm {K F : Bl} {w w1 : World} (f : Frm F w w1) (hd : ∀ k, K k → ¬ F k) : ∀ x : XE, XE.Mem K w x → XE.Mem K w1 x
 | .mk _ _ _ _ _ _ a cap args, h => by
  unfold XE.Mem at h ⊢
  obtain ⟨h1, h2, h3, h4⟩ := h
  refine ⟨h1, h2, ?_, XE.MemL.frm f hd args h4⟩
  rcases h3 with h3 | ⟨b, o, e1, e2, e3, e4⟩
  ·exact .inl h3
  ·exact .inr ⟨b, o, e1, e2, Nat.lt_of_lt_of_le e3 f.size, fun j u hj => (f.cell e3 (hd b e2) _).trans (e4 j u hj)⟩
theorem XE.MemL.frm {K F : Bl} {w w1 : World} (f : Frm F w w1) (hd : ∀ k, K k → ¬ F k) : ∀ l : List XE, XE.MemL K w l → XE.MemL K w1 l
 | [], _ => by simp [XE.MemL]
 | x :: r, h => by
  unfold XE.MemL at h ⊢
  exact ⟨XE.Mem.frm f hd x h.1, XE.MemL.frm f hd r h.2⟩
end
mutual
theorem XE.Mem.mono {K K' : Bl} {w : World} (hd : ∀ k, K k → K' k) : ∀ x : XE, XE.Mem K w x → XE.Mem K' w x
 | .mk _ _ _ _ _ _ a cap args, h => by
  unfold XE.Mem at h ⊢
  obtain ⟨h1, h2, h3, h4⟩ := h
  refine ⟨h1, h2, ?_, XE.MemL.mono hd args h4⟩
  rcases h3 with h3 | ⟨b, o, e1, e2, e3, e4⟩
  ·exact .inl h3
  ·exact .inr ⟨b, o, e1, hd _ e2, e3, e4⟩
theorem XE.MemL.mono {K K' : Bl} {w : World} (hd : ∀ k, K k → K' k) : ∀ l : List XE, XE.MemL K w l → XE.MemL K' w l
 | [], _ => by simp [XE.MemL]
 | x :: r, h => by
  unfold XE.MemL at h ⊢
  exact ⟨XE.Mem.mono hd x h.1, XE.MemL.mono hd r h.2⟩
end
mutual
theorem XE.Mem.old {K : Bl} {w : World} : ∀ x : XE, XE.Mem K w x → XE.Mem (fun k => K k ∧ k < w.heap.size) w x
 | .mk _ _ _ _ _ _ a cap args, h => by
  unfold XE.Mem at h ⊢
  obtain ⟨h1, h2, h3, h4⟩ := h
  refine ⟨h1, h2, ?_, XE.MemL.old args h4⟩
  rcases h3 with h3 | ⟨b, o, e1, e2, e3, e4⟩
  ·exact .inl h3
  ·exact .inr ⟨b, o, e1, ⟨e2, e3⟩, e3, e4⟩
theorem XE.MemL.old {K : Bl} {w : World} : ∀ l : List XE, XE.MemL K w l → XE.MemL (fun k => K k ∧ k < w.heap.size) w l
 | [], _ => by simp [XE.MemL]
 | x :: r, h => by
  unfold XE.MemL at h ⊢
  exact ⟨XE.Mem.old x h.1, XE.MemL.old r h.2⟩
end
theorem XE.Mem.below {K : Bl} {w w1 : World} {x : XE} (h : XE.Mem K w x) (hb : Below w.heap.size w w1) : XE.Mem K w1 x := XE.Mem.frm (Frm.of_below (F := fun _ => False) hb) (fun _ _ e => e) x h
theorem XE.Mem.leaf (K : Bl) (w : World) (op kind num scale : Int) (text qual : ByteArray) : XE.Mem K w (.mk op kind num scale text qual none 0 []) := by
 unfold XE.Mem
 exact ⟨Nat.le_refl _, by decide, .inl rfl, by simp [XE.MemL]⟩
theorem XE.Mem.node {K : Bl} {w : World} (op kind num scale : Int) (text qual : ByteArray) (g : Nat) (l : List XE) (hl : l.length ≤ maxLen) (hg : K g) (hs : g < w.heap.size) (hc : ∀ j u, (XE.encL l)[j]? = some u → w.cell? ⟨g, j, none⟩ = some u) (hm : XE.MemL K w l) :
  XE.Mem K w (.mk op kind num scale text qual (some ⟨g, 0, none⟩) l.length l) := by
 unfold XE.Mem
 exact ⟨Nat.le_refl _, hl, .inr ⟨g, 0, rfl, hg, hs, fun j u hj => by rw [Nat.zero_add]; exact hc j u hj⟩, hm⟩
abbrev PFlt (c : Int) : Value := .iface 59 (.agg #[.int .i64 c])
abbrev PPan (c : Int) : Ending := .panicked [{ v := PFlt c, recovered := false }]
structure PsM (w : World) (pb : Nat) (s : PS) : Prop where
 hd : ∃ a cap, w.heap[pb]? = some (.cells #[.slice a s.rest.length cap, .int .i64 (s.opn : Int), .int .i64 (s.deep : Int)] 63 (0, 0)) ∧ s.rest.length ≤ cap ∧ cap ≤ maxLen ∧
  (s.rest = [] ∨ ∃ g o, a = some ⟨g, o, none⟩ ∧ g < pb ∧ ∀ j u, (tkcells s.rest)[j]? = some u → w.cell? ⟨g, o + j, none⟩ = some u)
 rt : ∀ t ∈ s.rest, TkR t
 ln : s.rest.length ≤ 4294967296
 on : s.opn ≤ 40
 dp : s.deep ≤ 4294967296
abbrev PF (pb : Nat) : Bl := fun k => k = pb
theorem PsM.lt {w : World} {pb : Nat} {s : PS} (h : PsM w pb s) : pb < w.heap.size := by
 obtain ⟨a, cap, h1, -⟩ := h.hd
 exact (Array.getElem?_eq_some_iff.1 h1).1
theorem PsM.frm {F : Bl} {w w1 : World} {pb : Nat} {s : PS} (h : PsM w pb s) (f : Frm F w w1) (hF : ∀ k, k ≤ pb → ¬ F k) : PsM w1 pb s := by
 obtain ⟨a, cap, h1, h2, h3, h4⟩ := h.hd
 refine ⟨⟨a, cap, (f.block pb h.lt (hF _ (Nat.le_refl _))).trans h1, h2, h3, ?_⟩, h.rt, h.ln, h.on, h.dp⟩
 rcases h4 with h4 | ⟨g, o, e1, e2, e4⟩
 ·exact .inl h4
 ·exact .inr ⟨g, o, e1, e2, fun j u hj => (f.cell (Nat.lt_trans e2 h.lt) (hF _ (Nat.le_of_lt e2)) _).trans (e4 j u hj)⟩
theorem PsM.below {w w1 : World} {pb : Nat} {s : PS} (h : PsM w pb s) (hb : Below w.heap.size w w1) : PsM w1 pb s := h.frm (Frm.of_below (F := fun _ => False) hb) (fun _ _ e => e)
def EndP {α : Type} (w : World) (pb : Nat) (R : World → Value → α → Prop) (r : Except Nat (α × PS)) (e : Ending) (w' : World) : Prop :=
 Frm (PF pb) w w' ∧ match r with
  | .ok (a, s') => ∃ v, e = .returned v ∧ R w' v a ∧ PsM w' pb s'
  | .error c => e = PPan (c : Int)
abbrev GE (B : Nat) : Bl := fun k => B ≤ k
def RX1 (B : Nat) (w : World) (v : Value) (ex : Ex) : Prop := ∃ x : XE, v = x.val ∧ x.er = ex ∧ XE.Mem (GE B) w x
def RS (w : World) (v : Value) (l : List Nat) : Prop := v = .string (strB l)
def Bx (w : World) (g : Nat) (cs : Array Value) (T : TypeId) : Prop := w.heap[g]? = some (.cells cs T (0, 0))
theorem Bx.lt {w : World} {g : Nat} {cs : Array Value} {T : TypeId} (h : Bx w g cs T) : g < w.heap.size := (Array.getElem?_eq_some_iff.1 h).1
theorem Bx.cell {w : World} {g : Nat} {cs : Array Value} {T : TypeId} (h : Bx w g cs T) {o : Nat} {v : Value} (hv : cs[o]? = some v) : w.cell? ⟨g, o, none⟩ = some v := by rw [cell_of_block h]; exact hv
theorem Bx.frz {w : World} {g : Nat} {cs : Array Value} {T : TypeId} (h : Bx w g cs T) (o : Nat) : w.frozen? ⟨g, o, none⟩ = false := unfrozen_of_block h o
theorem Bx.frm {F : Bl} {w w1 : World} {g : Nat} {cs : Array Value} {T : TypeId} (h : Bx w g cs T) (f : Frm F w w1) (hF : ¬ F g) : Bx w1 g cs T := (f.block g h.lt hF).trans h
theorem Bx.below {w w1 : World} {g : Nat} {cs : Array Value} {T : TypeId} (h : Bx w g cs T) (hb : Below w.heap.size w w1) : Bx w1 g cs T := (hb.block g h.lt).trans h
theorem Bx.new (w : World) (cs : Array Value) (T : TypeId) : Bx (w.alloc (.cells cs T)) w.heap.size cs T := heap_alloc_new w _
def st7 (w : World) (g : Nat) : XE → World
 | .mk op kind num scale text qual a cap args => ((((((w.setCell ⟨g, 0, none⟩ (.int .i64 op)).setCell ⟨g, 1, none⟩ (.slice a args.length cap)).setCell ⟨g, 2, none⟩ (.int .i64 kind)).setCell ⟨g, 3, none⟩ (.int .i64 num)).setCell ⟨g, 4, none⟩ (.int .i64 scale)).setCell ⟨g, 5, none⟩ (.string text)).setCell ⟨g, 6, none⟩ (.string qual)
theorem st7_frm {F : Bl} {w w1 : World} (f : Frm F w w1) {g : Nat} (hg : F g ∨ w.heap.size ≤ g) : ∀ x : XE, Frm F w (st7 w1 g x)
 | .mk op kind num scale text qual a cap args => ((((((f.setCell hg _ _).setCell hg _ _).setCell hg _ _).setCell hg _ _).setCell hg _ _).setCell hg _ _).setCell hg _ _
theorem st7_box {w : World} {g : Nat} {u0 u1 u2 u3 u4 u5 u6 : Value} {T : TypeId} (hb : Bx w g #[u0, u1, u2, u3, u4, u5, u6] T) : ∀ x : XE, Bx (st7 w g x) g x.encA T
 | .mk op kind num scale text qual a cap args => by
  have h0 : Bx (w.setCell ⟨g, 0, none⟩ (.int .i64 op)) g #[.int .i64 op, u1, u2, u3, u4, u5, u6] T := box_set hb 0 _
  have h1 : Bx _ g #[.int .i64 op, .slice a args.length cap, u2, u3, u4, u5, u6] T := box_set h0 1 (.slice a args.length cap)
  have h2 : Bx _ g #[.int .i64 op, .slice a args.length cap, .int .i64 kind, u3, u4, u5, u6] T := box_set h1 2 (.int .i64 kind)
  have h3 : Bx _ g #[.int .i64 op, .slice a args.length cap, .int .i64 kind, .int .i64 num, u4, u5, u6] T := box_set h2 3 (.int .i64 num)
  have h4 : Bx _ g #[.int .i64 op, .slice a args.length cap, .int .i64 kind, .int .i64 num, .int .i64 scale, u5, u6] T := box_set h3 4 (.int .i64 scale)
  have h5 : Bx _ g #[.int .i64 op, .slice a args.length cap, .int .i64 kind, .int .i64 num, .int .i64 scale, .string text, u6] T := box_set h4 5 (.string text)
  exact box_set h5 6 (.string qual)
theorem ex_ret {R : Ending → World → Prop} {fn : Func} {k : Nat} (hr : fn.results = #[.cell k 30]) {a : Act} {w : World} {g : Nat} {x : XE} (hb : Bx w g x.encA 30)
  (h2 : a.tmps[k]?.getD undef = .pointer (some ⟨g, 0, none⟩)) (hd : a.defers = []) (hR : R (.returned x.val) w) : bodyPost Tryz.prog fn R .ret a w := by
 cases x with
 | mk op kind num scale text qual aa cap args =>
  have z0 : w.cell? ⟨g, 0, none⟩ = some (.int .i64 op) := hb.cell rfl
  have z1 : w.cell? ⟨g, 1, none⟩ = some (.slice aa args.length cap) := hb.cell rfl
  have z2 : w.cell? ⟨g, 2, none⟩ = some (.int .i64 kind) := hb.cell rfl
  have z3 : w.cell? ⟨g, 3, none⟩ = some (.int .i64 num) := hb.cell rfl
  have z4 : w.cell? ⟨g, 4, none⟩ = some (.int .i64 scale) := hb.cell rfl
  have z5 : w.cell? ⟨g, 5, none⟩ = some (.string text) := hb.cell rfl
  have z6 : w.cell? ⟨g, 6, none⟩ = some (.string qual) := hb.cell rfl
  exact bodyPost_ret (v := XE.val (.mk op kind num scale text qual aa cap args)) (by simp [results, hr, go_sem, z0, z1, z2, z3, z4, z5, z6, h2, XE.val]) hd hR
end Go.Proofs.YtofnkfjhmjecjaaGreatDoor

namespace Go.Proofs.YtofnkfjhmjecjaaGreatDoor
set_option maxRecDepth 100000
set_option linter.unusedVariables false
set_option linter.unusedSimpArgs false
theorem dep1 (op : Nat) (a : Ex) : depR (mk1 op a) = depR a + 1 := by simp [mk1, depR, depL]
theorem dep2 (op : Nat) (a b : Ex) : depR (mk2 op a b) = max (depR a + 1) (depR b + 1) := by simp [mk2, depR, depL]
theorem dep0 (op kind num scale : Int) (text qual : ByteArray) : depR (.mk op kind num scale text qual []) = 0 := by simp [depR, depL]
theorem depc (kind num scale : Int) (text : ByteArray) : depR (cst kind num scale text) = 0 := by simp [cst, depR, depL]
def DpS (e : Ex) (s s' : PS) : Prop := depR e + s'.rest.length < s.rest.length
section
variable (isName : List Nat → Bool)
theorem px_dep : ∀ n, (∀ lvl s e s', px isName n lvl s = some (.ok (e, s')) → DpS e s s') ∧ ∀ lvl e0 s e s', pc isName n lvl e0 s = some (.ok (e, s')) → depR e + s'.rest.length ≤ depR e0 + s.rest.length
 | 0 => ⟨(fun lvl s e s' h => by rw [px] at h; cases h), (fun lvl e0 s e s' h => by rw [pc] at h; cases h)⟩
 | n + 1 => by
  obtain ⟨ih1, ih2⟩ := px_dep n
  have chain : ∀ lvl s e s', bindR (px isName n (lvl + 1) s) (fun e s1 => pc isName n lvl e s1) = some (.ok (e, s')) → DpS e s s' := fun lvl s e s' h => by
   obtain ⟨a, s1, h1, h2⟩ := bindR_ok h
   have a1 := ih1 _ _ _ _ h1
   have b1 := ih2 _ _ _ _ _ h2
   unfold DpS at *
   omega
  have up : ∀ (op : Nat) lvl s0 s e s', s0.rest.length < s.rest.length → (bindR (px isName n lvl s0) fun e s1 => retR (mk1 op e) s1) = some (.ok (e, s')) → DpS e s s' := fun op lvl s0 s e s' hs h => by
   obtain ⟨a, s1, h1, h2⟩ := bindR_ok h
   obtain ⟨rfl, rfl⟩ := retR_ok h2
   have a1 := ih1 _ _ _ _ h1
   unfold DpS at *
   rw [dep1]
   omega
  refine ⟨fun lvl s e s' h => ?_, fun lvl e0 s e s' h => ?_⟩
  ·match lvl, h with
   | 0, h => rw [px] at h <;> first | exact chain _ _ _ _ h | (intros; omega)
   | 1, h => rw [px] at h <;> first | exact chain _ _ _ _ h | (intros; omega)
   | 4, h => rw [px] at h <;> first | exact chain _ _ _ _ h | (intros; omega)
   | 5, h => rw [px] at h <;> first | exact chain _ _ _ _ h | (intros; omega)
   | k + 9, h => rw [px] at h <;> first | exact chain _ _ _ _ h | (intros; omega)
   | 2, h =>
    rw [px] at h
    by_cases c : atP wNot s = true
    ·rw [if_pos c] at h
     exact up _ _ _ _ _ _ (by have := atP_len c; omega) h
    ·rw [if_neg c] at h; exact ih1 _ _ _ _ h
   | 6, h =>
    rw [px] at h
    by_cases c : atP [45] s = true
    ·rw [if_pos c] at h
     exact up _ _ _ _ _ _ (by have := atP_len c; omega) h
    ·rw [if_neg c] at h; exact ih1 _ _ _ _ h
   | 3, h =>
    rw [px] at h
    obtain ⟨a, s1, h1, h2⟩ := bindR_ok h
    have a1 := ih1 _ _ _ _ h1
    unfold DpS at a1 ⊢
    by_cases c : atP wIs s1 = true
    ·rw [if_pos c] at h2
     have l1 := atP_len c
     dsimp only at h2
     by_cases c2 : atP wNot s1.next = true
     ·rw [if_pos c2] at h2
      obtain ⟨u, s3, h3, h4⟩ := bindR_ok h2
      obtain ⟨rfl, rfl⟩ := retR_ok h4
      obtain ⟨c3, rfl⟩ := needP_ok h3
      have l2 := atP_len c2
      have l3 := atP_len c3
      rw [dep1]
      omega
     ·rw [if_neg c2] at h2
      obtain ⟨u, s3, h3, h4⟩ := bindR_ok h2
      obtain ⟨rfl, rfl⟩ := retR_ok h4
      obtain ⟨c3, rfl⟩ := needP_ok h3
      have l3 := atP_len c3
      rw [dep1]
      omega
    ·rw [if_neg c] at h2
     split at h2
     ·obtain ⟨rfl, rfl⟩ := retR_ok h2
      exact a1
     ·rename_i op hw
      obtain ⟨f, s2, h3, h4⟩ := bindR_ok h2
      obtain ⟨rfl, rfl⟩ := retR_ok h4
      have b1 := ih1 _ _ _ _ h3
      have := whichP_len hw
      unfold DpS at b1
      rw [dep2]
      omega
   | 7, h =>
    rw [px] at h
    cases er : s.rest with
    | nil => rw [er] at h; cases h
    | cons t r =>
     rw [er] at h
     dsimp only at h
     have hl : r.length < s.rest.length := by rw [er]; simp
     have base : ∀ e, depR e = 0 → DpS e s { s with rest := r } := fun e he => by unfold DpS; rw [he]; show 0 + r.length < _; omega
     have inner : ∀ e s', px isName n 8 { s with rest := r } = some (.ok (e, s')) → DpS e s s' := fun e s' h => by
      have b1 := ih1 _ _ _ _ h
      unfold DpS at *
      have : depR e + s'.rest.length < r.length := b1
      omega
     have call : ∀ (op : Nat) e s', (bindR (needP [40] { s with rest := r }) fun _ s2 => bindR (px isName n 8 s2) fun e s3 => retR (mk1 op e) s3) = some (.ok (e, s')) → DpS e s s' := fun op e s' h => by
      obtain ⟨u, s2, h1, h2⟩ := bindR_ok h
      obtain ⟨c1, rfl⟩ := needP_ok h1
      have l1 := atP_len c1
      exact up op 8 _ s e s' (by have : (PS.next { s with rest := r }).rest.length + 1 = r.length := l1; omega) h2
     rcases ite_or h with ⟨-, h⟩ | ⟨-, h⟩
     ·obtain ⟨rfl, rfl⟩ := retR_ok h; exact base _ (depc _ _ _ _)
     rcases ite_or h with ⟨-, h⟩ | ⟨-, h⟩
     ·obtain ⟨rfl, rfl⟩ := retR_ok h; exact base _ (depc _ _ _ _)
     rcases ite_or h with ⟨-, h⟩ | ⟨-, h⟩
     ·obtain ⟨rfl, rfl⟩ := retR_ok h; exact base _ (depc _ _ _ _)
     rcases ite_or h with ⟨-, h⟩ | ⟨-, h⟩
     ·rcases ite_or h with ⟨-, h⟩ | ⟨-, h⟩
      ·obtain ⟨rfl, rfl⟩ := retR_ok h; exact base _ (depc _ _ _ _)
      rcases ite_or h with ⟨-, h⟩ | ⟨-, h⟩
      ·obtain ⟨rfl, rfl⟩ := retR_ok h; exact base _ (depc _ _ _ _)
      rcases ite_or h with ⟨-, h⟩ | ⟨-, h⟩
      ·obtain ⟨rfl, rfl⟩ := retR_ok h; exact base _ (depc _ _ _ _)
      rcases ite_or h with ⟨-, h⟩ | ⟨-, h⟩
      ·obtain ⟨rfl, rfl⟩ := retR_ok h; exact base _ (depc _ _ _ _)
      rcases ite_or h with ⟨-, h⟩ | ⟨-, h⟩
      ·obtain ⟨rfl, rfl⟩ := retR_ok h; exact base _ (depc _ _ _ _)
      rcases ite_or h with ⟨-, h⟩ | ⟨-, h⟩
      ·exact call _ _ _ h
      rcases ite_or h with ⟨-, h⟩ | ⟨-, h⟩
      ·exact call _ _ _ h
      rcases ite_or h with ⟨-, h⟩ | ⟨-, h⟩
      ·rcases ite_or h with ⟨cq, h⟩ | ⟨-, h⟩
       ·obtain ⟨c, s2, h1, h2⟩ := bindR_ok h
        obtain ⟨rfl, rfl⟩ := retR_ok h2
        have b1 := (nameP_ok h1).1
        have l1 := atP_len cq
        unfold DpS
        rw [dep0]
        have : (PS.next { s with rest := r }).rest.length + 1 = r.length := l1
        omega
       ·obtain ⟨rfl, rfl⟩ := retR_ok h; exact base _ (dep0 _ _ _ _ _ _)
      ·cases h
     rcases ite_or h with ⟨-, h⟩ | ⟨-, h⟩
     ·exact inner _ _ h
     ·cases h
   | 8, h =>
    rw [px] at h
    by_cases c : s.opn < 40
    ·rw [if_pos c] at h
     obtain ⟨a, s1, h1, h2⟩ := bindR_ok h
     obtain ⟨u, s2, h3, h4⟩ := bindR_ok h2
     obtain ⟨rfl, rfl⟩ := retR_ok h4
     obtain ⟨c1, rfl⟩ := needP_ok h3
     have b1 := ih1 _ _ _ _ h1
     have l1 := atP_len c1
     unfold DpS at b1 ⊢
     show depR a + s1.next.rest.length < s.rest.length
     have : depR a + s1.rest.length < s.rest.length := b1
     omega
    ·rw [if_neg c] at h; cases h
  ·rw [pc] at h
   split at h
   ·obtain ⟨rfl, rfl⟩ := retR_ok h
    exact Nat.le_refl _
   ·rename_i op hw
    obtain ⟨f, s1, h1, h2⟩ := bindR_ok h
    have a1 := ih1 _ _ _ _ h1
    have b1 := ih2 _ _ _ _ _ h2
    have := whichP_len hw
    unfold DpS at a1
    rw [dep2] at b1
    omega
end
end Go.Proofs.YtofnkfjhmjecjaaGreatDoor

namespace Go.Proofs.YtofnkfjhmjecjaaGreatDoor
set_option maxRecDepth 100000
open Go.RowKit Go.Joins Go.ChangeShapes Go.WideShapes
set_option linter.unusedVariables false
set_option linter.unusedSimpArgs false
theorem pmust_ok (c : Int) (w : World) : Calls Tryz.prog 21 #[.bool true, .int .i64 c] w fun e w' => e = .returned (.tuple #[]) ∧ w = w' := by
 go_enter Tryz.func21, Tryz.ntmps21
 go_wp2
 go_end0
 exact ⟨rfl, rfl⟩
theorem pmust_no (c : Int) (w : World) : Calls Tryz.prog 21 #[.bool false, .int .i64 c] w fun e w' => e = PPan c ∧ w = w' := by
 go_enter Tryz.func21, Tryz.ntmps21
 go_wp2
 exact ⟨rfl, rfl, rfl⟩
theorem PsM.cons {w : World} {pb : Nat} {s : PS} {t : Tk} {r : List Tk} (h : PsM w pb s) (hr : s.rest = t :: r) : ∃ g o cap, pb < w.heap.size ∧
  w.cell? ⟨pb, 0, none⟩ = some (.slice (some ⟨g, o, none⟩) (r.length + 1) cap) ∧ r.length + 1 ≤ cap ∧ cap ≤ maxLen ∧ r.length + 1 ≤ 4294967296 ∧ w.frozen? ⟨pb, 0, none⟩ = false ∧
  w.cell? ⟨g, o, none⟩ = some (.int .i64 (t.kind : Int)) ∧ w.cell? ⟨g, o + 1, none⟩ = some (.string (strB t.text)) ∧ w.cell? ⟨g, o + 2, none⟩ = some (.int .i64 (t.num : Int)) ∧ w.cell? ⟨g, o + 3, none⟩ = some (.int .i64 (t.scale : Int)) ∧
  ∀ o' cap', (o' = o + 4 ∨ r.length = 0) → r.length ≤ cap' → cap' ≤ cap → PsM (w.setCell ⟨pb, 0, none⟩ (.slice (some ⟨g, o', none⟩) r.length cap')) pb s.next ∧ Frm (PF pb) w (w.setCell ⟨pb, 0, none⟩ (.slice (some ⟨g, o', none⟩) r.length cap')) := by
 obtain ⟨a, cap, h1, h2, h3, h4⟩ := h.hd
 have hn : s.next = ⟨r, s.opn, s.deep⟩ := by unfold PS.next; rw [hr]; rfl
 have hln := h.ln
 rw [hr] at h1 h2 h4 hln
 rcases h4 with h4 | ⟨g, o, rfl, e2, e4⟩
 ·cases h4
 have hs : tkcells (t :: r) = [.int .i64 (t.kind : Int), .string (strB t.text), .int .i64 (t.num : Int), .int .i64 (t.scale : Int)] ++ tkcells r := rfl
 refine ⟨g, o, cap, h.lt, by rw [cell_of_block h1]; rfl, h2, h3, hln, unfrozen_of_block h1 0, e4 0 _ (by rw [hs]; rfl), e4 1 _ (by rw [hs]; rfl), e4 2 _ (by rw [hs]; rfl), e4 3 _ (by rw [hs]; rfl), fun o' cap' ho hc hc2 => ?_⟩
 have f : Frm (PF pb) w (w.setCell ⟨pb, 0, none⟩ (.slice (some ⟨g, o', none⟩) r.length cap')) := Frm.set1 (F := PF pb) w rfl 0 _
 refine ⟨?_, f⟩
 rw [hn]
 refine ⟨⟨some ⟨g, o', none⟩, cap', ?_, hc, Nat.le_trans hc2 h3, ?_⟩, fun t ht => h.rt t (by rw [hr]; exact List.mem_cons_of_mem _ ht), by simp at hln; show r.length ≤ _; omega, h.on, h.dp⟩
 ·rw [setCell_eq_setRow w pb 0 _ _ _ _ h1, setRow_heap w pb _ _ _ _ h1]; rfl
 ·rcases ho with rfl | ho
  ·refine .inr ⟨g, o + 4, rfl, e2, fun j u hj => ?_⟩
   rw [f.cell (Nat.lt_trans e2 h.lt) (show ¬ g = pb by omega) _, show o + 4 + j = o + (4 + j) by omega]
   refine e4 (4 + j) u ?_
   rw [hs, List.getElem?_append_right (by simp)]
   simpa using hj
  ·exact .inl (List.eq_nil_of_length_eq_zero ho)
theorem PsM.nil {w : World} {pb : Nat} {s : PS} (h : PsM w pb s) (hr : s.rest = []) : ∃ a cap, w.cell? ⟨pb, 0, none⟩ = some (.slice a 0 cap) := by
 obtain ⟨a, cap, h1, h2, h3, h4⟩ := h.hd
 rw [hr] at h1
 exact ⟨a, cap, by rw [cell_of_block h1]; rfl⟩
structure Stp (w w' : World) (pb : Nat) (s : PS) : Prop where
 fr : Frm (PF pb) w w'
 ps : PsM w' pb s
theorem Stp.refl {w : World} {pb : Nat} {s : PS} (h : PsM w pb s) : Stp w w pb s := ⟨Frm.refl _ _, h⟩
theorem Stp.below {w w' w2 : World} {pb : Nat} {s : PS} (h : Stp w w' pb s) (hb : Below w'.heap.size w' w2) : Stp w w2 pb s := ⟨h.fr.step hb, h.ps.below hb⟩
theorem Stp.trans {w w1 w2 : World} {pb : Nat} {s1 s2 : PS} (h : Stp w w1 pb s1) (h2 : Stp w1 w2 pb s2) : Stp w w2 pb s2 := ⟨h.fr.trans h2.fr (New.refl _ _), h2.ps⟩
theorem Stp.set {w w' : World} {pb : Nat} {s : PS} (h : Stp w w' pb s) {g : Nat} (hg : w.heap.size ≤ g) (hp : pb < g) (o : Nat) (u : Value) : Stp w (w'.setCell ⟨g, o, none⟩ u) pb s :=
 ⟨h.fr.setCell (.inr hg) o u, h.ps.frm (F := fun k => k = g) (Frm.set1 (F := fun k => k = g) w' rfl o u) (fun k hk e => by omega)⟩
theorem Stp.st7 {w w' : World} {pb : Nat} {s : PS} (h : Stp w w' pb s) {g : Nat} (hg : w.heap.size ≤ g) (hp : pb < g) (x : XE) : Stp w (st7 w' g x) pb s :=
 ⟨st7_frm h.fr (.inr hg) x, h.ps.frm (F := fun k => k = g) (st7_frm (F := fun k => k = g) (Frm.refl _ w') (.inl rfl) x) (fun k hk e => by omega)⟩
theorem Stp.alloc {w w' : World} {pb : Nat} {s : PS} (h : Stp w w' pb s) (o : Obj) : Stp w (w'.alloc o) pb s := h.below ((Below.refl _ _).alloc (Nat.le_refl _) _)
theorem Stp.drew {w w' : World} {pb : Nat} {s : PS} (h : Stp w w' pb s) : Stp w w'.drew pb s := h.below (Below.refl _ _).drew
theorem Bx.four {w : World} {g : Nat} {u0 u1 u2 u3 : Value} {T : TypeId} (h : Bx w g #[u0, u1, u2, u3] T) : w.cell? ⟨g, 0, none⟩ = some u0 ∧ w.cell? ⟨g, 1, none⟩ = some u1 ∧ w.cell? ⟨g, 2, none⟩ = some u2 ∧ w.cell? ⟨g, 3, none⟩ = some u3 ∧ w.frozen? ⟨g, 0, none⟩ = false ∧ w.frozen? ⟨g, 1, none⟩ = false ∧ w.frozen? ⟨g, 2, none⟩ = false ∧ w.frozen? ⟨g, 3, none⟩ = false :=
 ⟨h.cell rfl, h.cell rfl, h.cell rfl, h.cell rfl, h.frz 0, h.frz 1, h.frz 2, h.frz 3⟩
theorem Bx.seven {w : World} {g : Nat} {u0 u1 u2 u3 u4 u5 u6 : Value} {T : TypeId} (h : Bx w g #[u0, u1, u2, u3, u4, u5, u6] T) : (w.cell? ⟨g, 0, none⟩ = some u0 ∧ w.cell? ⟨g, 1, none⟩ = some u1 ∧ w.cell? ⟨g, 2, none⟩ = some u2 ∧ w.cell? ⟨g, 3, none⟩ = some u3 ∧ w.cell? ⟨g, 4, none⟩ = some u4 ∧ w.cell? ⟨g, 5, none⟩ = some u5 ∧ w.cell? ⟨g, 6, none⟩ = some u6) ∧
  w.frozen? ⟨g, 0, none⟩ = false ∧ w.frozen? ⟨g, 1, none⟩ = false ∧ w.frozen? ⟨g, 2, none⟩ = false ∧ w.frozen? ⟨g, 3, none⟩ = false ∧ w.frozen? ⟨g, 4, none⟩ = false ∧ w.frozen? ⟨g, 5, none⟩ = false ∧ w.frozen? ⟨g, 6, none⟩ = false :=
 ⟨⟨h.cell rfl, h.cell rfl, h.cell rfl, h.cell rfl, h.cell rfl, h.cell rfl, h.cell rfl⟩, h.frz 0, h.frz 1, h.frz 2, h.frz 3, h.frz 4, h.frz 5, h.frz 6⟩
def st4 (w : World) (g : Nat) (k : Int) (s : ByteArray) (n sc : Int) : World := (((w.setCell ⟨g, 0, none⟩ (.int .i64 k)).setCell ⟨g, 1, none⟩ (.string s)).setCell ⟨g, 2, none⟩ (.int .i64 n)).setCell ⟨g, 3, none⟩ (.int .i64 sc)
theorem Stp.st4 {w w' : World} {pb : Nat} {s : PS} (h : Stp w w' pb s) {g : Nat} (hg : w.heap.size ≤ g) (hp : pb < g) (k : Int) (t : ByteArray) (n sc : Int) : Stp w (st4 w' g k t n sc) pb s :=
 (((h.set hg hp _ _).set hg hp _ _).set hg hp _ _).set hg hp _ _
theorem st4_box {w : World} {g : Nat} {u0 u1 u2 u3 : Value} {T : TypeId} (hb : Bx w g #[u0, u1, u2, u3] T) (k : Int) (s : ByteArray) (n sc : Int) : Bx (st4 w g k s n sc) g #[.int .i64 k, .string s, .int .i64 n, .int .i64 sc] T := box_four hb _ _ _ _
theorem tok_ret1 {R : Ending → World → Prop} {fn : Func} {j : Nat} (hr : fn.results = #[.cell j 84]) {a : Act} {w : World} {g : Nat} {k n sc : Int} {s : ByteArray} (hb : Bx w g #[.int .i64 k, .string s, .int .i64 n, .int .i64 sc] 84)
  (h2 : a.tmps[j]?.getD undef = .pointer (some ⟨g, 0, none⟩)) (hd : a.defers = []) (hR : R (.returned (Tkv k s n sc)) w) : bodyPost Tryz.prog fn R .ret a w := by
 have z0 : w.cell? ⟨g, 0, none⟩ = some (.int .i64 k) := hb.cell rfl
 have z1 : w.cell? ⟨g, 1, none⟩ = some (.string s) := hb.cell rfl
 have z2 : w.cell? ⟨g, 2, none⟩ = some (.int .i64 n) := hb.cell rfl
 have z3 : w.cell? ⟨g, 3, none⟩ = some (.int .i64 sc) := hb.cell rfl
 exact bodyPost_ret (v := Tkv k s n sc) (by simp [results, hr, go_sem, z0, z1, z2, z3, h2, Tkv]) hd hR
set_option maxHeartbeats 2000000 in
theorem take_p {w : World} {pb : Nat} {s : PS} {t : Tk} {r : List Tk} (h : PsM w pb s) (hr : s.rest = t :: r) :
  Calls Tryz.prog 103 #[.pointer (some ⟨pb, 0, none⟩)] w fun e w' => e = .returned (Tkv t.kind (strB t.text) t.num t.scale) ∧ Stp w w' pb s.next := by
 generalize hP : (fun (e : Ending) (w' : World) => e = .returned (Tkv t.kind (strB t.text) t.num t.scale) ∧ Stp w w' pb s.next) = P
 have HP := Lib.hid hP
 have b1 : Below w.heap.size w (w.alloc (.cells #[.int .i64 0, .string ⟨#[]⟩, .int .i64 0, .int .i64 0] 84)) := (Below.refl _ _).alloc (Nat.le_refl _) _
 have hn1 := Bx.new w #[.int .i64 0, .string ⟨#[]⟩, .int .i64 0, .int .i64 0] 84
 obtain ⟨w1, hw1⟩ : ∃ w1, w.alloc (.cells #[.int .i64 0, .string ⟨#[]⟩, .int .i64 0, .int .i64 0] 84) = w1 := ⟨_, rfl⟩
 have hs1 : w1.heap.size = w.heap.size + 1 := by rw [← hw1]; simp
 have hpb := h.lt
 rw [hw1] at b1 hn1
 have S1 : Stp w w1 pb s := (Stp.refl h).below b1
 obtain ⟨g, o, cap, h0, c0, h2, h3, h4, f0, c1, c2, c3, c4, HM⟩ := S1.ps.cons hr
 have HF : ∀ o' cap' ob, (o' = o + 4 ∨ r.length = 0) → r.length ≤ cap' → cap' ≤ cap →
   Bx ((st4 (w1.setCell ⟨pb, 0, none⟩ (.slice (some ⟨g, o', none⟩) r.length cap')) w.heap.size t.kind (strB t.text) t.num t.scale).alloc ob) w.heap.size #[.int .i64 t.kind, .string (strB t.text), .int .i64 t.num, .int .i64 t.scale] 84 ∧
   P (.returned (Tkv t.kind (strB t.text) t.num t.scale)) ((st4 (w1.setCell ⟨pb, 0, none⟩ (.slice (some ⟨g, o', none⟩) r.length cap')) w.heap.size t.kind (strB t.text) t.num t.scale).alloc ob) := fun o' cap' ob a b c => by
  obtain ⟨p1, p2⟩ := HM o' cap' a b c
  have S2 : Stp w (w1.setCell ⟨pb, 0, none⟩ (.slice (some ⟨g, o', none⟩) r.length cap')) pb s.next := S1.trans ⟨p2, p1⟩
  have S3 := (S2.st4 (Nat.le_refl _) hpb t.kind (strB t.text) t.num t.scale).alloc ob
  refine ⟨Bx.below (st4_box (hn1.frm p2 (show ¬ _ = _ by omega)) _ _ _ _) ((Below.refl _ _).alloc (Nat.le_refl _) _), ?_⟩
  rw [← hP]
  exact ⟨rfl, S3⟩
 obtain ⟨m, hm⟩ : ∃ m, r.length = m := ⟨_, rfl⟩
 rw [hm] at c0 h2 h4 HF
 have HF1 := Lib.hid (fun ob => HF (o + 4) (cap - 1) ob (.inl rfl) (by omega) (by omega))
 have HF2 := Lib.hid (fun (hz : m = 0) ob => HF o 0 ob (.inr hz) (by omega) (by omega))
 have k1 : (1 : Int) ≤ (m : Int) + 1 := by omega
 have k2 : ((m : Int) + 1) ≤ (cap : Int) := by omega
 have HS1 := Lib.hid hs1
 obtain ⟨x0, x1, x2, x3, y0, y1, y2, y3⟩ := hn1.four
 clear HM HF HP hP S1 h hm hr b1 hn1
 go_enter Tryz.func103, Tryz.ntmps103
 go_wp2_with fail
 ·have := HF2.out (by omega)
  exact tok_ret1 Tryz.results103 (this _).1 rfl rfl (this _).2
 ·exact tok_ret1 Tryz.results103 (HF1.out _).1 rfl rfl (HF1.out _).2
set_option maxHeartbeats 2000000 in
theorem take_p0 {w : World} {pb : Nat} {s : PS} (h : PsM w pb s) (hr : s.rest = []) :
  Calls Tryz.prog 103 #[.pointer (some ⟨pb, 0, none⟩)] w fun e w' => e = .returned (Tkv 0 ⟨#[]⟩ 0 0) ∧ Stp w w' pb s := by
 generalize hP : (fun (e : Ending) (w' : World) => e = .returned (Tkv 0 ⟨#[]⟩ 0 0) ∧ Stp w w' pb s) = P
 have b1 : Below w.heap.size w (w.alloc (.cells #[.int .i64 0, .string ⟨#[]⟩, .int .i64 0, .int .i64 0] 84)) := (Below.refl _ _).alloc (Nat.le_refl _) _
 have hn1 := Bx.new w #[.int .i64 0, .string ⟨#[]⟩, .int .i64 0, .int .i64 0] 84
 obtain ⟨w1, hw1⟩ : ∃ w1, w.alloc (.cells #[.int .i64 0, .string ⟨#[]⟩, .int .i64 0, .int .i64 0] 84) = w1 := ⟨_, rfl⟩
 have hpb := h.lt
 rw [hw1] at b1 hn1
 have S1 : Stp w w1 pb s := (Stp.refl h).below b1
 obtain ⟨a, cap, c0⟩ := S1.ps.nil hr
 obtain ⟨x0, x1, x2, x3, y0, y1, y2, y3⟩ := hn1.four
 have HF := Lib.hid (show P (.returned (Tkv 0 ⟨#[]⟩ 0 0)) (st4 w1 w.heap.size 0 ⟨#[]⟩ 0 0) by rw [← hP]; exact ⟨rfl, S1.st4 (Nat.le_refl _) hpb _ _ _ _⟩)
 have HB := Lib.hid (st4_box hn1 0 ⟨#[]⟩ 0 0)
 clear hP S1 h hr b1 hn1
 go_enter Tryz.func103, Tryz.ntmps103
 go_wp2_with fail
 exact tok_ret1 Tryz.results103 HB.out rfl rfl HF.out
end Go.Proofs.YtofnkfjhmjecjaaGreatDoor
