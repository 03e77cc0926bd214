/-
  Texts of mine put together, in build order.
  Conditions: as each declaration says.
-/
import Derived.Test.YtofnkfjhmjecjaaGreatDoorRows
import Derived.WalkKit
import Derived.Lib.Hide
import Derived.Below
import Derived.OwnWalk
import Derived.Laws.AppendOwn
import Derived.Laws.OwnMore
import Derived.Deep.AppendLies
import Derived.Deep.DeepMust
import Derived.Laws.BytesArg
import Derived.Lib.SmallJoins
import Derived.Laws.FloatArith
import Derived.WalkLawsBesides
import Derived.Laws.Bits64b
import Derived.Laws.Externs
import Derived.Deep.DeepCutAuto
import Derived.Deep.QuietTactic
import Derived.BigQuiet
import Derived.Maps.Range
import Derived.Shelf.Abstract
namespace Go.Proofs.YtofnkfjhmjecjaaGreatDoor
set_option maxRecDepth 100000
open Go.RowKit
theorem bcell {W w1 : World} (hb : Below W.heap.size W w1) : (∀ b o, b < W.heap.size → w1.cell? ⟨b, o, none⟩ = W.cell? ⟨b, o, none⟩) ∧ (∀ b o, b < W.heap.size → w1.frozen? ⟨b, o, none⟩ = W.frozen? ⟨b, o, none⟩) :=
 ⟨fun b o h => hb.cell (p := ⟨b, o, none⟩) h, fun b o h => hb.frozen (p := ⟨b, o, none⟩) h⟩
end Go.Proofs.YtofnkfjhmjecjaaGreatDoor

namespace Go.Proofs.YtofnkfjhmjecjaaGreatDoor
set_option maxRecDepth 100000
open Go.RowKit Go.Joins Go.ChangeShapes Go.WideShapes
set_option linter.unusedVariables false
theorem infoB : (Tryz.prog.info? 5).map (fun i => (i.zero, i.size, i.bytes)) = some (some (.int .u8 0), 1, 1) := by kernel_rfl
def bcells (l : List Nat) : List Value := l.map fun n : Nat => .int .u8 (n : Int)
theorem bcells_length (l : List Nat) : (bcells l).length = l.length := by simp [bcells]
theorem bcells_app (l r : List Nat) : bcells (l ++ r) = bcells l ++ bcells r := List.map_append
theorem bcells_one (l : List Nat) : ∀ u ∈ bcells l, u.oneCell' = true := by
 intro u hu
 obtain ⟨n, -, rfl⟩ := List.mem_map.1 hu
 rfl
def OwB (w : World) (base : Nat) (v : Value) (l : List Nat) : Prop := w.ownsRow base 5 1 v l.length (bcells l) ∧ v ≠ .slice none 0 0
theorem OwB.form {w : World} {base : Nat} {v : Value} {l : List Nat} (h : OwB w base v l) : ∃ g cap, v = .slice (some ⟨g, 0, none⟩) l.length cap ∧ base ≤ g ∧ g < w.heap.size ∧ ∀ j u, (bcells l)[j]? = some u → w.cell? ⟨g, j, none⟩ = some u := by
 obtain ⟨⟨h1, h2⟩, h3⟩ := h
 rcases h2 with ⟨e, _⟩ | ⟨g, cap, cur, e, hb, hg, hn, hc, hs, ht⟩
 ·exact absurd e h3
 ·refine ⟨g, cap, e, hb, (Array.getElem?_eq_some_iff.1 hg).1, fun j u hj => ?_⟩
  rw [cell_of_block hg j]
  rw [← ht, List.getElem?_take] at hj
  split at hj
  ·rw [← Array.getElem?_toList]; exact hj
  ·cases hj
theorem OwB.lt {w : World} {base : Nat} {v : Value} {l : List Nat} (h : OwB w base v l) : ∀ k, v.ownBlock = some k → base ≤ k ∧ k < w.heap.size := fun k hk => h.1.lt k hk
theorem OwB.alloc {w : World} {base : Nat} {v : Value} {l : List Nat} (h : OwB w base v l) (o : Obj) : OwB (w.alloc o) base v l := ⟨h.1.alloc o, h.2⟩
theorem OwB.le {w : World} {base base' : Nat} {v : Value} {l : List Nat} (h : OwB w base v l) (hb : base' ≤ base) : OwB w base' v l := ⟨ownsRow_le h.1 hb, h.2⟩
theorem wp_push {ops : Array Oper} {rest : List Oper} {o : Oper} {a : Act} {w : World} {Q : Exit → Act → World → Prop} (hgd : o.guard = none) (s x : Operand)
  (ho : o.op = .call { callee := .builtin .append, args := #[s, x], argTypes := #[78, 78] })
  (base : Nat) (v : Value) (l : List Nat) (hs : a.eval s = v) (hown : OwB w base v l) (ad : Addr) (m c : Nat) (r : List Nat) (hx : a.eval x = .slice (some ad) m c) (hm : r.length = m)
  (hnews : ∀ j u, (bcells r)[j]? = some u → w.cell? (ad.add j) = some u) (hsz : l.length + m ≤ 70368744177664) (hbase : base ≤ w.heap.size)
  (h : ∀ v' w', OwB w' base v' (l ++ r) → w.grownBy w' v.ownBlock → wpList Tryz.prog ops Q rest (a.put o.dst v') w') : wpList Tryz.prog ops Q (o :: rest) a w := by
 obtain ⟨i0, hi, hz0, hz1, hz2⟩ := info_parts infoB
 refine wpList_append_own w hgd s x _ ho base 5 i0 _ 1 1 Tryz.underlying78 hi hz0 hz1 hz2 rfl (by decide) v l.length (bcells l) hs hown.1 ad m c (bcells r) hx (by rw [bcells_length, hm, Nat.mul_one]) hnews (bcells_one r) (by unfold maxLen; omega) (by omega) hbase ?_
 intro v' w' h1 h2 h3
 refine h v' w' ⟨?_, fun e => hown.2 (h3.1 e).1⟩ h2
 rw [bcells_app, List.length_append, hm]
 exact h1
theorem news1 (w : World) (x : Nat) : ∀ j u, (bcells [x])[j]? = some u → (w.alloc (.cells #[.int .u8 (x : Int)] 5)).cell? ((⟨w.heap.size, 0, none⟩ : Addr).add j) = some u :=
 World.news_of_block (cs := #[.int .u8 (x : Int)]) (heap_alloc_new w _)
theorem news1' (w : World) (x : Nat) (z : Int) (hz : z = (x : Int)) : ∀ j u, (bcells [x])[j]? = some u → (w.alloc (.cells #[.int .u8 z] 5)).cell? ((⟨w.heap.size, 0, none⟩ : Addr).add j) = some u := by
 subst hz
 exact news1 w x
def strB (l : List Nat) : ByteArray := strOfNums (l.map fun n : Nat => (n : Int))
theorem str_own {w : World} {base : Nat} {v : Value} {l : List Nat} (h : OwB w base v l) : (convert 78 9 v).run Tryz.prog w = .ok (.string (strB l)) w := by
 obtain ⟨g, cap, rfl, -, -, hc⟩ := h.form
 refine run_convert_bytes_arg w 78 5 Tryz.underlying78 Tryz.underlying5 g 0 l.length cap (l.map fun n : Nat => (n : Int)) (by simp) (fun i hi => ?_) 9 Tryz.underlying9
 rw [Nat.zero_add]
 refine hc i _ ?_
 simp only [bcells, List.getElem?_map]
 rw [List.getElem?_eq_getElem hi]
 simp [List.getD_eq_getElem?_getD, List.getElem?_map, List.getElem?_eq_getElem hi]
def sl (s : ByteArray) : List Nat := s.data.toList.map fun b => b.toNat
theorem sl_length (s : ByteArray) : (sl s).length = s.size := by
 unfold sl
 rw [List.length_map, Array.length_toList]
 rfl
theorem sl_lt (s : ByteArray) : ∀ x ∈ sl s, x < 256 := by
 intro x hx
 obtain ⟨b, -, rfl⟩ := List.mem_map.1 hx
 exact b.toNat_lt
theorem strB_data (l : List Nat) : (strB l).data.toList = l.map fun n => UInt8.ofNat n := by
 unfold strB
 rw [strOfNums_data]
 simp
theorem sl_strB {l : List Nat} (h : ∀ x ∈ l, x < 256) : sl (strB l) = l := by
 unfold sl
 rw [strB_data, List.map_map]
 conv => rhs; rw [← List.map_id l]
 refine List.map_congr_left fun x hx => ?_
 simp only [Function.comp, id]
 rw [UInt8.toNat_ofNat']
 exact Nat.mod_eq_of_lt (h x hx)
theorem strB_inj {l r : List Nat} (hl : ∀ x ∈ l, x < 256) (hr : ∀ x ∈ r, x < 256) (h : strB l = strB r) : l = r := by
 rw [← sl_strB hl, ← sl_strB hr, h]
end Go.Proofs.YtofnkfjhmjecjaaGreatDoor

namespace Go.Proofs.YtofnkfjhmjecjaaGreatDoor
set_option maxRecDepth 100000
open Ieee
def sg (b : Nat) : Bool := b / 9223372036854775808 % 2 == 1
def M (r : Nat) : Nat := if r < 4503599627370496 then r else 4503599627370496 + r % 4503599627370496
def E (r : Nat) : Nat := r / 4503599627370496 - 1
def V (r : Nat) : Nat := M r * 2 ^ E r
/-! what a product and a quotient with 1 are -/
def one : Nat := 4607182418800017408
/-! whole numbers -/
end Go.Proofs.YtofnkfjhmjecjaaGreatDoor

namespace Go.Proofs.YtofnkfjhmjecjaaGreatDoor
set_option maxRecDepth 100000
open Go.RowKit
theorem ret_i {k : IntKind} {a b : Int} (h : a = b) : Ending.returned (.int k a) = .returned (.int k b) := by rw [h]
end Go.Proofs.YtofnkfjhmjecjaaGreatDoor

namespace Go.Proofs.YtofnkfjhmjecjaaGreatDoor
set_option maxRecDepth 100000
open Go.RowKit Go.Joins Go.ChangeShapes Go.WideShapes
set_option linter.unusedVariables false
structure IsB (w : World) (b off : Nat) (l : List Nat) : Prop where
 hb : 0 < l.length → b < w.heap.size
 c : ∀ (i x : Nat), l[i]? = some x → w.cell? ⟨b, off + i, none⟩ = some (.int .u8 (x : Int))
 lt : ∀ x ∈ l, x < 256
theorem IsB.below {w w' : World} {b off : Nat} {l : List Nat} (h : IsB w b off l) (hw : Below w.heap.size w w') : IsB w' b off l := by
 obtain ⟨hc, _⟩ := bcell hw
 refine ⟨fun hl => Nat.lt_of_lt_of_le (h.hb hl) hw.size, fun i x hx => ?_, h.lt⟩
 have hl : 0 < l.length := by have := (List.getElem?_eq_some_iff.1 hx).1; omega
 rw [hc _ _ (h.hb hl)]
 exact h.c i x hx
theorem OwB.isB {w : World} {base : Nat} {v : Value} {l : List Nat} (h : OwB w base v l) (hl : ∀ x ∈ l, x < 256) : ∃ g cap, v = .slice (some ⟨g, 0, none⟩) l.length cap ∧ IsB w g 0 l ∧ base ≤ g := by
 obtain ⟨g, cap, e, hb, hg, hc⟩ := h.form
 refine ⟨g, cap, e, ⟨fun _ => hg, fun i x hx => ?_, hl⟩, hb⟩
 rw [Nat.zero_add]
 refine hc i _ ?_
 simp only [bcells, List.getElem?_map, hx, Option.map_some]
theorem IsB.drop {w : World} {b off : Nat} {l : List Nat} (h : IsB w b off l) (k : Nat) : IsB w b (off + k) (l.drop k) :=
 ⟨fun hl => h.hb (by rw [List.length_drop] at hl; omega), fun i x hx => by rw [List.getElem?_drop] at hx; rw [Nat.add_assoc]; exact h.c _ _ hx, fun x hx => h.lt x (List.mem_of_mem_drop hx)⟩
theorem IsB.take {w : World} {b off : Nat} {l : List Nat} (h : IsB w b off l) (k : Nat) : IsB w b off (l.take k) :=
 ⟨fun hl => h.hb (by rw [List.length_take] at hl; omega), fun i x hx => h.c i x (by rw [List.getElem?_take] at hx; split at hx; exact hx; cases hx), fun x hx => h.lt x (List.mem_of_mem_take hx)⟩
end Go.Proofs.YtofnkfjhmjecjaaGreatDoor

namespace Go.Proofs.YtofnkfjhmjecjaaGreatDoor
set_option maxRecDepth 100000
open Go.RowKit Go.Joins Go.ChangeShapes Go.WideShapes
set_option linter.unusedVariables false
abbrev Bl := Nat → Prop
structure Frm (F : Bl) (w w' : World) : Prop where
 os : w'.os = w.os
 tape : w'.tape = w.tape
 output : w'.output = w.output
 size : w.heap.size ≤ w'.heap.size
 block : ∀ k, k < w.heap.size → ¬ F k → w'.heap[k]? = w.heap[k]?
def New (w : World) (F F' : Bl) : Prop := ∀ k, F' k → F k ∨ w.heap.size ≤ k
theorem New.refl (w : World) (F : Bl) : New w F F := fun _ h => .inl h
theorem Frm.refl (F : Bl) (w : World) : Frm F w w := ⟨rfl, rfl, rfl, Nat.le_refl _, fun _ _ _ => rfl⟩
theorem Frm.trans {F F1 : Bl} {w w1 w2 : World} (h : Frm F w w1) (h2 : Frm F1 w1 w2) (hn : New w F F1) : Frm F w w2 :=
 ⟨h2.os.trans h.os, h2.tape.trans h.tape, h2.output.trans h.output, Nat.le_trans h.size h2.size, fun k hk hf => (h2.block k (Nat.lt_of_lt_of_le hk h.size) (fun hc => by
  rcases hn k hc with g | g
  ·exact hf g
  ·omega)).trans (h.block k hk hf)⟩
theorem Frm.mono {F F1 : Bl} {w w1 : World} (h : Frm F w w1) (hs : ∀ k, F k → F1 k) : Frm F1 w w1 := ⟨h.os, h.tape, h.output, h.size, fun k hk hf => h.block k hk (fun g => hf (hs k g))⟩
theorem Frm.of_below {F : Bl} {w w1 : World} (h : Below w.heap.size w w1) : Frm F w w1 := ⟨h.os, h.tape, h.output, h.size, fun k hk _ => h.block k hk⟩
theorem Frm.below {F : Bl} {w w1 : World} {B : Nat} (h : Frm F w w1) (hF : ∀ k, F k → B ≤ k) (hB : B ≤ w.heap.size) : Below B w w1 :=
 ⟨h.os, h.tape, h.output, h.size, fun k hk => h.block k (Nat.lt_of_lt_of_le hk hB) (fun g => by have := hF k g; omega)⟩
theorem Frm.nothing {w w1 : World} (h : Frm (fun _ => False) w w1) : Below w.heap.size w w1 := h.below (fun _ h => h.elim) (Nat.le_refl _)
theorem Frm.drew {F : Bl} {w w1 : World} (h : Frm F w w1) : Frm F w w1.drew := ⟨h.os, h.tape, h.output, h.size, h.block⟩
theorem Frm.set1 {F : Bl} (w : World) {g : Nat} (hg : F g) (o : Nat) (u : Value) : Frm F w (w.setCell ⟨g, o, none⟩ u) :=
 ⟨rfl, rfl, rfl, by simp [World.setCell], fun k _ hf => heap_setCell_other w ⟨g, o, none⟩ k u (fun e => hf (by simp at e; subst e; exact hg))⟩
theorem Frm.setCell {F : Bl} {w w1 : World} (h : Frm F w w1) {g : Nat} (hg : F g ∨ w.heap.size ≤ g) (o : Nat) (u : Value) : Frm F w (w1.setCell ⟨g, o, none⟩ u) :=
 h.trans (F1 := fun k => k = g) (Frm.set1 w1 (F := fun k => k = g) rfl o u) (fun k hk => by subst hk; exact hg)
theorem Frm.grown {F : Bl} {w w1 w2 : World} {row : Option Nat} (h : Frm F w w1) (hg : w1.grownBy w2 row) (hr : ∀ k, row = some k → F k ∨ w.heap.size ≤ k) : Frm F w w2 :=
 h.trans (F1 := fun k => row = some k) ⟨hg.os, hg.tape, hg.output, hg.size, fun k hk hf => hg.block k hk (fun e => hf e.symm)⟩ hr
theorem Frm.step {F : Bl} {w w1 w2 : World} (h : Frm F w w1) (hb : Below w1.heap.size w1 w2) : Frm F w w2 := h.trans (Frm.of_below (F := F) hb) (New.refl _ _)
theorem Frm.heap {F : Bl} {w w1 : World} (h : Frm F w w1) {g : Nat} (hg : g < w.heap.size) (hf : ¬ F g) : w1.heap[g]? = w.heap[g]? := h.block g hg hf
theorem Frm.cell {F : Bl} {w w1 : World} (h : Frm F w w1) {g : Nat} (hg : g < w.heap.size) (hf : ¬ F g) (o : Nat) : w1.cell? ⟨g, o, none⟩ = w.cell? ⟨g, o, none⟩ := World.cell?_of_block (a := ⟨g, o, none⟩) (h.block g hg hf)
theorem Frm.frozen {F : Bl} {w w1 : World} (h : Frm F w w1) {g : Nat} (hg : g < w.heap.size) (hf : ¬ F g) (o : Nat) : w1.frozen? ⟨g, o, none⟩ = w.frozen? ⟨g, o, none⟩ := World.frozen?_of_block (a := ⟨g, o, none⟩) (h.block g hg hf)
theorem Frm.isB {F : Bl} {w w1 : World} (h : Frm F w w1) {b off : Nat} {l : List Nat} (hb : IsB w b off l) (hf : 0 < l.length → ¬ F b) : IsB w1 b off l := by
 refine ⟨fun hl => Nat.lt_of_lt_of_le (hb.hb hl) h.size, fun i x hx => ?_, hb.lt⟩
 have hl : 0 < l.length := by have := (List.getElem?_eq_some_iff.1 hx).1; omega
 rw [h.cell (hb.hb hl) (hf hl)]
 exact hb.c i x hx
theorem Frm.ownsRow {F : Bl} {w w1 : World} (h : Frm F w w1) {base : Nat} {e : TypeId} {size : Nat} {v : Value} {n : Nat} {xs : List Value} (ho : w.ownsRow base e size v n xs) (hf : ∀ k, v.ownBlock = some k → ¬ F k) : w1.ownsRow base e size v n xs := by
 refine ⟨ho.1, ?_⟩
 rcases ho.2 with hn | ⟨g, cap, cur, rfl, hb, hg, rest⟩
 ·exact .inl hn
 ·exact .inr ⟨g, cap, cur, rfl, hb, (h.block g (Array.getElem?_eq_some_iff.1 hg).1 (hf g rfl)).trans hg, rest⟩
end Go.Proofs.YtofnkfjhmjecjaaGreatDoor

namespace Go.Proofs.YtofnkfjhmjecjaaGreatDoor
set_option maxRecDepth 100000
open Go.RowKit
end Go.Proofs.YtofnkfjhmjecjaaGreatDoor

namespace Go.Proofs.YtofnkfjhmjecjaaGreatDoor
set_option maxRecDepth 100000
open Go.RowKit Go.Joins Go.ChangeShapes Go.WideShapes
set_option linter.unusedVariables false
set_option linter.unusedSimpArgs false
def blL (c : Nat) : Bool := c == 32 || c == 9 || c == 10 || c == 13
def dgL (c : Nat) : Bool := decide (48 ≤ c) && decide (c ≤ 57)
def smL (c : Nat) : Bool := decide (97 ≤ c) && decide (c ≤ 122)
def cpL (c : Nat) : Bool := decide (65 ≤ c) && decide (c ≤ 90)
def bwL (c : Nat) : Bool := smL c || cpL c || c == 95
def iwL (c : Nat) : Bool := bwL c || dgL c
def inL (c : Nat) : Bool := iwL c && !cpL c
def nqL (c : Nat) : Bool := c != 39
def Sort8 (g : Nat) (f : Nat → Bool) : Prop := ∀ (c : Nat) (w : World), c < 256 → Calls Tryz.prog g #[.int .u8 (c : Int)] w fun e w' => e = .returned (.bool (f c)) ∧ w = w'
theorem eqi (c k : Nat) : ((c : Int) == (k : Int)) = (c == k) := by
 by_cases h : c = k
 ·subst h; simp
 ·rw [show (c == k) = false by simpa using h]
  exact beq_eq_false_iff_ne.2 (by omega)
set_option maxHeartbeats 1000000 in
theorem blank_any : Sort8 36 blL := by
 intro c w hc
 have e1 : ((c : Int) == (32 : Int)) = (c == 32) := eqi c 32
 have e2 : ((c : Int) == (9 : Int)) = (c == 9) := eqi c 9
 have e3 : ((c : Int) == (10 : Int)) = (c == 10) := eqi c 10
 have e4 : ((c : Int) == (13 : Int)) = (c == 13) := eqi c 13
 unfold blL
 cases h1 : (c == 32) <;> cases h2 : (c == 9) <;> cases h3 : (c == 10) <;> cases h4 : (c == 13) <;> rw [h1] at e1 <;> rw [h2] at e2 <;> rw [h3] at e3 <;> rw [h4] at e4 <;> clear h1 h2 h3 h4
 all_goals
  go_enter Tryz.func36, Tryz.ntmps36
  go_wp2
  go_ret
  exact ⟨rfl, rfl⟩
theorem lei (a c : Nat) : decide ((a : Int) ≤ (c : Int)) = decide (a ≤ c) := by simp
set_option maxHeartbeats 1000000 in
theorem digit_any : Sort8 98 dgL := by
 intro c w hc
 have e1 : decide ((48 : Int) ≤ (c : Int)) = decide (48 ≤ c) := lei 48 c
 have e2 : decide ((c : Int) ≤ (57 : Int)) = decide (c ≤ 57) := lei c 57
 unfold dgL
 cases h1 : decide (48 ≤ c) <;> cases h2 : decide (c ≤ 57) <;> rw [h1] at e1 <;> rw [h2] at e2 <;> clear h1 h2
 all_goals
  go_enter Tryz.func98, Tryz.ntmps98
  go_wp2
  go_ret
  exact ⟨rfl, rfl⟩
set_option maxHeartbeats 1000000 in
theorem small_any : Sort8 157 smL := by
 intro c w hc
 have e1 : decide ((97 : Int) ≤ (c : Int)) = decide (97 ≤ c) := lei 97 c
 have e2 : decide ((c : Int) ≤ (122 : Int)) = decide (c ≤ 122) := lei c 122
 unfold smL
 cases h1 : decide (97 ≤ c) <;> cases h2 : decide (c ≤ 122) <;> rw [h1] at e1 <;> rw [h2] at e2 <;> clear h1 h2
 all_goals
  go_enter Tryz.func157, Tryz.ntmps157
  go_wp2
  go_ret
  exact ⟨rfl, rfl⟩
set_option maxHeartbeats 1000000 in
theorem cap_any : Sort8 158 cpL := by
 intro c w hc
 have e1 : decide ((65 : Int) ≤ (c : Int)) = decide (65 ≤ c) := lei 65 c
 have e2 : decide ((c : Int) ≤ (90 : Int)) = decide (c ≤ 90) := lei c 90
 unfold cpL
 cases h1 : decide (65 ≤ c) <;> cases h2 : decide (c ≤ 90) <;> rw [h1] at e1 <;> rw [h2] at e2 <;> clear h1 h2
 all_goals
  go_enter Tryz.func158, Tryz.ntmps158
  go_wp2
  go_ret
  exact ⟨rfl, rfl⟩
set_option maxHeartbeats 1000000 in
theorem noquote_any : Sort8 165 nqL := by
 intro c w hc
 have e1 : ((c : Int) == (39 : Int)) = (c == 39) := eqi c 39
 have e2 : ((c : Int) != (39 : Int)) = (c != 39) := by rw [bne, bne, e1]
 unfold nqL
 cases h2 : (c != 39) <;> rw [h2] at e2 <;> clear h2 e1
 all_goals
  go_enter Tryz.func165, Tryz.ntmps165
  go_wp2
  go_ret
  exact ⟨rfl, rfl⟩
set_option maxHeartbeats 2000000 in
theorem begins_any : Sort8 96 bwL := by
 intro c w hc
 have HS := Lib.hid (small_any c w hc)
 have HC := Lib.hid (cap_any c w hc)
 have e1 : ((c : Int) == (95 : Int)) = (c == 95) := eqi c 95
 unfold bwL
 cases h1 : smL c <;> cases h2 : cpL c <;> cases h3 : (c == 95) <;> rw [h1] at HS <;> rw [h2] at HC <;> rw [h3] at e1 <;> clear h1 h2 h3
 all_goals
  go_enter Tryz.func96, Tryz.ntmps96
  go_wp2_with (first | (go_at_call 157; refine HS.out.mono ?_; rintro e w' ⟨rfl, rfl⟩) | (go_at_call 158; refine HC.out.mono ?_; rintro e w' ⟨rfl, rfl⟩))
  go_ret
  exact ⟨rfl, rfl⟩
set_option maxHeartbeats 2000000 in
theorem inword_any : Sort8 159 iwL := by
 intro c w hc
 have HS := Lib.hid (begins_any c w hc)
 have HC := Lib.hid (digit_any c w hc)
 unfold iwL
 cases h1 : bwL c <;> cases h2 : dgL c <;> rw [h1] at HS <;> rw [h2] at HC <;> clear h1 h2
 all_goals
  go_enter Tryz.func159, Tryz.ntmps159
  go_wp2_with (first | (go_at_call 96; refine HS.out.mono ?_; rintro e w' ⟨rfl, rfl⟩) | (go_at_call 98; refine HC.out.mono ?_; rintro e w' ⟨rfl, rfl⟩))
  go_ret
  exact ⟨rfl, rfl⟩
set_option maxHeartbeats 2000000 in
theorem inname_any : Sort8 143 inL := by
 intro c w hc
 have HS := Lib.hid (inword_any c w hc)
 have HC := Lib.hid (cap_any c w hc)
 unfold inL
 cases h1 : iwL c <;> cases h2 : cpL c <;> rw [h1] at HS <;> rw [h2] at HC <;> clear h1 h2
 all_goals
  go_enter Tryz.func143, Tryz.ntmps143
  go_wp2_with (first | (go_at_call 159; refine HS.out.mono ?_; rintro e w' ⟨rfl, rfl⟩) | (go_at_call 158; refine HC.out.mono ?_; rintro e w' ⟨rfl, rfl⟩))
  go_ret
  exact ⟨rfl, rfl⟩
def runL (f : Nat → Bool) : List Nat → Nat
 | [] => 0
 | c :: r => if f c then runL f r + 1 else 0
theorem runL_cons (f : Nat → Bool) (c : Nat) (r : List Nat) : runL f (c :: r) = if f c then runL f r + 1 else 0 := rfl
theorem runL_le (f : Nat → Bool) : ∀ l, runL f l ≤ l.length
 | [] => Nat.le_refl _
 | c :: r => by
  unfold runL
  have := runL_le f r
  split <;> simp <;> omega
set_option maxHeartbeats 1000000 in
/-- the closure: a byte is not of a sort -/
theorem not_clo {g : Nat} {f : Nat → Bool} (hg : Sort8 g f) (henter : ∀ args w, (callFunc g args).run Tryz.prog w = .ok (.enter g args) w) (c : Nat) (hc : c < 256) (w : World) (b : Nat) (hb : w.cell? ⟨b, 0, none⟩ = some (.func (.func g) #[] #[])) :
  Calls Tryz.prog 156 #[.int .u8 (c : Int), .pointer (some ⟨b, 0, none⟩)] w fun e w' => e = .returned (.bool (!f c)) ∧ w = w' := by
 have HG := Lib.hid (hg c w hc)
 obtain ⟨v, hv⟩ : ∃ v, f c = v := ⟨_, rfl⟩
 rw [hv] at HG ⊢
 go_enter Tryz.func156, Tryz.ntmps156
 go_wp2_with (first | (go_at_fn g; refine HG.out.mono ?_; rintro e w' ⟨rfl, rfl⟩))
 go_ret
 exact ⟨rfl, rfl⟩
set_option maxHeartbeats 2000000 in
theorem index_any {g : Nat} {f : Nat → Bool} (hg : Sort8 g f) (henter : ∀ args w, (callFunc g args).run Tryz.prog w = .ok (.enter g args) w) (w : World) (bx : Nat) (hbx : w.cell? ⟨bx, 0, none⟩ = some (.func (.func g) #[] #[])) (a : Option Addr) (b off cap : Nat) (l : List Nat) (ha : l.length = 0 ∨ a = some ⟨b, off, none⟩) (hA : IsB w b off l) (hl : l.length ≤ 4294967296) :
  Calls Tryz.prog 155 #[.slice a l.length cap, .func (.func 156) #[] #[.pointer (some ⟨bx, 0, none⟩)]] w fun e w' => e = .returned (.int .i64 (if runL f l = l.length then -1 else (runL f l : Int))) ∧ w = w' := by
 obtain ⟨T, hT⟩ : ∃ T : Int, (if runL f l = l.length then -1 else (runL f l : Int)) = T := ⟨_, rfl⟩
 rw [hT]
 have HT := Lib.hid hT
 have HA := Lib.hid hA
 obtain ⟨n, en⟩ : ∃ n, l.length = n := ⟨_, rfl⟩
 have EN := Lib.hid en
 have HCL := Lib.hid (fun (c : Nat) (hc : c < 256) => not_clo hg henter c hc w bx hbx)
 rw [en] at hl ha ⊢
 have hent2 : ∀ args w, (callFunc 156 args).run Tryz.prog w = .ok (.enter 156 args) w := enters_of Tryz.func156 (by kernel_rfl) rfl
 clear hT hA en hbx
 go_enter Tryz.func155, Tryz.ntmps155
 go_wp2
 go_loopw [8] (fun i wr => ∃ k : Nat, k ≤ n ∧ i = .int .i64 k ∧ Hid (runL f l = k + runL f (l.drop k)) ∧ wr = w) (fun i _ => n - (intOf i).toNat)
 case atStart => exact ⟨0, Nat.zero_le _, rfl, by show runL f l = 0 + runL f (l.drop 0); simp, rfl⟩
 case round =>
  obtain ⟨k, hk, rfl, HR, rfl⟩ := hrel
  by_cases c : k < n
  ·have c1 : (k : Int) < (n : Int) := by omega
   obtain rfl : a = some ⟨b, off, none⟩ := by rcases ha with h | h; omega; exact h
   have hx : l[k]? = some (l[k]'(by rw [EN.out]; exact c)) := List.getElem?_eq_getElem _
   generalize l[k]'(by rw [EN.out]; exact c) = x at *
   have d0 := HA.out.c k x hx
   have hx8 : x < 256 := HA.out.lt x (List.mem_of_getElem? hx)
   have hr := HR.out
   have hd : l.drop k = x :: l.drop (k + 1) := by
    obtain ⟨h1, h2⟩ := List.getElem?_eq_some_iff.1 hx
    rw [List.drop_eq_getElem_cons h1, h2]
   rw [hd, runL_cons] at hr
   have HC := Lib.hid (HCL.out x hx8)
   cases hv : f x with
   | true =>
    rw [hv] at HC hr
    have HR2 := Lib.hid (show runL f l = (k + 1) + runL f (l.drop (k + 1)) by rw [if_pos rfl] at hr; omega)
    clear hr hd hx HR hv
    go_wp2_with (first | (go_at_fn 156; refine HC.out.mono ?_; rintro e w' ⟨rfl, rfl⟩))
    exact ⟨⟨k + 1, by omega, by simp, HR2, by trivial⟩, by simp [intOf]; omega⟩
   | false =>
    rw [hv] at HC hr
    have hk3 : runL f l = k := by simpa using hr
    have hT2 : T = (k : Int) := by rw [← HT.out, hk3, EN.out, if_neg (by omega)]
    clear hr hd hx HR hv hk3
    go_wp2_with (first | (go_at_fn 156; refine HC.out.mono ?_; rintro e w' ⟨rfl, rfl⟩))
    go_ret
    exact ⟨ret_i hT2.symm, rfl⟩
  ·have c1 : ¬ (k : Int) < (n : Int) := by omega
   obtain rfl : k = n := by omega
   have hT2 : T = -1 := by
    have hr := HR.out
    rw [List.drop_eq_nil_of_le (by rw [EN.out]; exact Nat.le_refl _)] at hr
    have : runL f l = l.length := by rw [hr, EN.out]; rfl
    rw [← HT.out, if_pos this]
   clear HR
   go_wp2_with fail
   go_ret
   exact ⟨rfl, rfl⟩
set_option maxHeartbeats 1000000 in
theorem run_any {g : Nat} {f : Nat → Bool} (hg : Sort8 g f) (henter : ∀ args w, (callFunc g args).run Tryz.prog w = .ok (.enter g args) w) (w : World) (a : Option Addr) (b off cap : Nat) (l : List Nat) (ha : l.length = 0 ∨ a = some ⟨b, off, none⟩) (hA : IsB w b off l) (hl : l.length ≤ 4294967296) :
  Calls Tryz.prog 95 #[.slice a l.length cap, .func (.func g) #[] #[]] w fun e w' => e = .returned (.int .i64 (runL f l : Nat)) ∧ Below w.heap.size w w' := by
 have hle := runL_le f l
 have b1 : Below w.heap.size w (w.alloc (.cells #[.func (.func g) #[] #[]] 82)) := (Below.refl _ _).alloc (Nat.le_refl _) _
 have HI := Lib.hid (index_any hg henter (w.alloc (.cells #[.func (.func g) #[] #[]] 82)) w.heap.size (by rw [cell_of_block (heap_alloc_new w _)]; rfl) a b off cap l ha (hA.below b1) hl)
 have HB := Lib.hid b1
 obtain ⟨r, hr⟩ : ∃ r, runL f l = r := ⟨_, rfl⟩
 obtain ⟨n, en⟩ : ∃ n, l.length = n := ⟨_, rfl⟩
 rw [hr, en] at HI hle
 rw [hr, en]
 clear b1 hr en hA ha
 by_cases c : r = n
 ·rw [if_pos c] at HI
  go_enter Tryz.func95, Tryz.ntmps95
  go_wp2_with (first | (go_at_call 155; refine HI.out.mono ?_; rintro e w' ⟨rfl, rfl⟩))
  go_ret
  exact ⟨ret_i (by rw [c]), HB.out⟩
 ·rw [if_neg c] at HI
  have c2 : decide ((r : Int) < 0) = false := by simp
  go_enter Tryz.func95, Tryz.ntmps95
  go_wp2_with (first | (go_at_call 155; refine HI.out.mono ?_; rintro e w' ⟨rfl, rfl⟩))
  go_ret
  exact ⟨rfl, HB.out⟩
end Go.Proofs.YtofnkfjhmjecjaaGreatDoor

namespace Go.Proofs.YtofnkfjhmjecjaaGreatDoor
set_option maxRecDepth 100000
open Go.RowKit Go.Joins Go.ChangeShapes Go.WideShapes
set_option linter.unusedVariables false
set_option linter.unusedSimpArgs false
structure Tk where
 kind : Nat
 text : List Nat
 num : Nat
 scale : Nat
deriving DecidableEq
def lowL (c : Nat) : Nat := if cpL c then c + 32 else c
def decL (l : List Nat) : Nat := l.foldl (fun n c => n * 10 + (c - 48)) 0
def textL : List Nat → Option (List Nat × Nat)
 | [] => none
 | c :: r => if c = 39 then (match r with
   | [] => some ([], 1)
   | d :: r' => if d = 39 then (textL r').map (fun x => (39 :: x.1, x.2 + 2)) else some ([], 1))
  else (textL r).map (fun x => (c :: x.1, x.2 + 1))
def signL (l : List Nat) : Nat := match l with
 | [] => 0
 | c :: r =>
  if (match r with
   | [] => false
   | d :: _ => (c == 60 && d == 62) || (c == 60 && d == 61) || (c == 62 && d == 61) || (c == 124 && d == 124)) then 2
  else if [40, 41, 44, 46, 42, 43, 45, 47, 37, 61, 60, 62].contains c then 1 else 0
def tokC (c : Nat) (r l : List Nat) : Except Nat (Tk × Nat) :=
    if bwL c then (if runL iwL l > 32 then .error 122 else .ok (⟨1, (l.take (runL iwL l)).map lowL, 0, 0⟩, runL iwL l))
    else if dgL c then
      (if (match l.drop (runL dgL l) with
          | p :: d :: _ => p == 46 && dgL d
          | _ => false) then
        (if runL dgL l + runL dgL (l.drop (runL dgL l + 1)) > 15 then .error 11
         else .ok (⟨3, [], decL (l.take (runL dgL l) ++ (l.drop (runL dgL l + 1)).take (runL dgL (l.drop (runL dgL l + 1)))), runL dgL (l.drop (runL dgL l + 1))⟩, runL dgL l + 1 + runL dgL (l.drop (runL dgL l + 1))))
       else (if runL dgL l > 19 ∨ 9223372036854775807 < decL (l.take (runL dgL l)) then .error 11 else .ok (⟨2, [], decL (l.take (runL dgL l)), 0⟩, runL dgL l)))
    else if c = 39 then (match textL r with
      | none => .error 121
      | some x => if x.1.length > 200 then .error 1 else .ok (⟨4, x.1, 0, 0⟩, x.2 + 1))
    else if signL l = 0 then .error 120 else .ok (⟨5, l.take (signL l), 0, 0⟩, signL l)
def fracL (l : List Nat) : Bool := match l with
 | p :: d :: _ => p == 46 && dgL d
 | _ => false
theorem tokC_eq (c : Nat) (r l : List Nat) : tokC c r l =
    if bwL c then (if runL iwL l > 32 then .error 122 else .ok (⟨1, (l.take (runL iwL l)).map lowL, 0, 0⟩, runL iwL l))
    else if dgL c then
      (if fracL (l.drop (runL dgL l)) then
        (if runL dgL l + runL dgL (l.drop (runL dgL l + 1)) > 15 then .error 11
         else .ok (⟨3, [], decL (l.take (runL dgL l) ++ (l.drop (runL dgL l + 1)).take (runL dgL (l.drop (runL dgL l + 1)))), runL dgL (l.drop (runL dgL l + 1))⟩, runL dgL l + 1 + runL dgL (l.drop (runL dgL l + 1))))
       else (if runL dgL l > 19 ∨ 9223372036854775807 < decL (l.take (runL dgL l)) then .error 11 else .ok (⟨2, [], decL (l.take (runL dgL l)), 0⟩, runL dgL l)))
    else if c = 39 then (match textL r with
      | none => .error 121
      | some x => if x.1.length > 200 then .error 1 else .ok (⟨4, x.1, 0, 0⟩, x.2 + 1))
    else if signL l = 0 then .error 120 else .ok (⟨5, l.take (signL l), 0, 0⟩, signL l) := rfl
def tokL : List Nat → Except Nat (Tk × Nat)
 | [] => .error 120
 | c :: r => tokC c r (c :: r)
theorem tokL_cons (c : Nat) (r : List Nat) : tokL (c :: r) = tokC c r (c :: r) := rfl
def lexGo : Nat → List Nat → Except Nat (List Tk)
 | 0, _ => .ok []
 | n + 1, l => match l.drop (runL blL l) with
  | [] => .ok []
  | c :: r => match tokL (c :: r) with
   | .error e => .error e
   | .ok (t, k) => match lexGo n ((c :: r).drop k) with
    | .error e => .error e
    | .ok ts => .ok (t :: ts)
def lexL (l : List Nat) : Except Nat (List Tk) := lexGo (l.length + 1) l
/-! a blank behind -/
theorem blk_cases {e : Nat} (h : blL e = true) : e = 32 ∨ e = 9 ∨ e = 10 ∨ e = 13 := by
 unfold blL at h
 simp only [Bool.or_eq_true, beq_iff_eq] at h
 omega
theorem runL_app {f : Nat → Bool} {e : Nat} (hf : f e = false) (b : List Nat) : ∀ l, runL f (l ++ e :: b) = runL f l
 | [] => by show runL f (e :: b) = 0; rw [runL_cons, hf]; rfl
 | c :: r => by
  show runL f (c :: (r ++ e :: b)) = _
  rw [runL_cons, runL_cons, runL_app hf b r]
theorem drop_app {α : Type} (l b : List α) (k : Nat) (hk : k ≤ l.length) : (l ++ b).drop k = l.drop k ++ b := by
 rw [List.drop_append]
 rw [show k - l.length = 0 by omega]; rfl
theorem take_app {α : Type} (l b : List α) (k : Nat) (hk : k ≤ l.length) : (l ++ b).take k = l.take k := by
 rw [List.take_append]
 rw [show k - l.length = 0 by omega]; simp
theorem textL_app {e : Nat} (he : e ≠ 39) (b : List Nat) : ∀ (l : List Nat) (x : List Nat × Nat), textL l = some x → textL (l ++ e :: b) = some x ∧ x.2 ≤ l.length
 | [], x, h => by simp [textL] at h
 | [c], x, h => by
  unfold textL at h
  by_cases c1 : c = 39
  ·rw [if_pos c1] at h
   injection h with h
   subst h c1
   exact ⟨by simp [textL, he], by simp⟩
  ·rw [if_neg c1] at h
   simp [textL] at h
 | c :: d :: r, x, h => by
  unfold textL at h
  by_cases c1 : c = 39
  ·rw [if_pos c1] at h
   by_cases d1 : d = 39
   ·simp only [d1, if_true] at h
    cases hr : textL r with
    | none => rw [hr] at h; simp at h
    | some y =>
     rw [hr] at h
     simp only [Option.map_some, Option.some.injEq] at h
     obtain ⟨h1, h2⟩ := textL_app he b r y hr
     subst h c1 d1
     refine ⟨?_, by simp; omega⟩
     show textL (39 :: 39 :: (r ++ e :: b)) = _
     unfold textL
     simp [h1]
   ·simp only [d1, if_false, Option.some.injEq] at h
    subst h c1
    refine ⟨?_, by simp⟩
    show textL (39 :: d :: (r ++ e :: b)) = _
    unfold textL
    simp [d1]
  ·rw [if_neg c1] at h
   cases hr : textL (d :: r) with
   | none => rw [hr] at h; simp at h
   | some y =>
    rw [hr] at h
    simp only [Option.map_some, Option.some.injEq] at h
    obtain ⟨h1, h2⟩ := textL_app he b (d :: r) y hr
    subst h
    refine ⟨?_, by simp at h2 ⊢; omega⟩
    have h1' : textL (d :: (r ++ e :: b)) = some y := h1
    show textL (c :: d :: (r ++ e :: b)) = _
    rw [textL.eq_def]
    simp only [c1, if_false]
    rw [h1']
    rfl
theorem signL_app {e : Nat} (he : blL e = true) (b l : List Nat) (h : signL l ≠ 0) : signL (l ++ e :: b) = signL l ∧ signL l ≤ l.length := by
 have he4 := blk_cases he
 match l with
 | [] => exact absurd rfl h
 | [c] =>
  unfold signL at h ⊢
  simp only [List.cons_append, List.nil_append] at h ⊢
  simp only [show ((c == 60 && e == 62) || (c == 60 && e == 61) || (c == 62 && e == 61) || (c == 124 && e == 124)) = false by rcases he4 with rfl | rfl | rfl | rfl <;> simp, Bool.false_eq_true, if_false] at h ⊢
  refine ⟨trivial, ?_⟩
  split <;> simp
 | c :: d :: r =>
  unfold signL
  simp only [List.cons_append]
  refine ⟨trivial, ?_⟩
  split
  ·simp
  ·split <;> simp
theorem runL_take {f : Nat → Bool} {e : Nat} (l b : List Nat) (hf : f e = false) : (l ++ e :: b).take (runL f l) = l.take (runL f l) ∧ (l ++ e :: b).drop (runL f l) = l.drop (runL f l) ++ e :: b :=
 ⟨take_app _ _ _ (runL_le f l), drop_app _ _ _ (runL_le f l)⟩
theorem cond_app {e : Nat} (he : blL e = true) (b l : List Nat) : (match l ++ e :: b with
  | p :: d :: _ => p == 46 && dgL d
  | _ => false) = (match l with
  | p :: d :: _ => p == 46 && dgL d
  | _ => false) := by
 match l with
 | [] =>
  cases b with
  | nil => rfl
  | cons d q =>
   show (e == 46 && dgL d) = false
   rcases blk_cases he with rfl | rfl | rfl | rfl <;> rfl
 | [p] =>
  show (p == 46 && dgL e) = false
  rw [show dgL e = false by rcases blk_cases he with rfl | rfl | rfl | rfl <;> rfl, Bool.and_false]
 | p :: d :: r => rfl
theorem tokL_app {e : Nat} (he : blL e = true) (b l : List Nat) (t : Tk) (k : Nat) (h : tokL l = .ok (t, k)) : tokL (l ++ e :: b) = .ok (t, k) ∧ k ≤ l.length ∧ 0 < k := by
 match l with
 | [] => simp [tokL] at h
 | c :: r =>
  have i32 : iwL e = false := by rcases blk_cases he with rfl | rfl | rfl | rfl <;> rfl
  have d32 : dgL e = false := by rcases blk_cases he with rfl | rfl | rfl | rfl <;> rfl
  have q32 : e ≠ 39 := by rcases blk_cases he with rfl | rfl | rfl | rfl <;> decide
  have happ : (c :: r) ++ e :: b = c :: (r ++ e :: b) := rfl
  have hrw := runL_app (f := iwL) i32 b (c :: r)
  have hrd := runL_app (f := dgL) d32 b (c :: r)
  obtain ⟨w1, w2⟩ := runL_take (f := iwL) (c :: r) b i32
  obtain ⟨g1, g2⟩ := runL_take (f := dgL) (c :: r) b d32
  have hle := runL_le iwL (c :: r)
  have hld := runL_le dgL (c :: r)
  rw [happ] at hrw hrd w1 w2 g1 g2 ⊢
  rw [tokL_cons] at h ⊢
  unfold tokC at h ⊢
  by_cases c1 : bwL c = true
  ·rw [if_pos c1] at h ⊢
   rw [hrw, w1]
   have hp : 0 < runL iwL (c :: r) := by rw [runL_cons, if_pos (by unfold iwL; rw [c1]; rfl)]; omega
   split at h
   ·cases h
   ·next q =>
    rw [if_neg q]
    injection h with h
    injection h with h1 h2
    subst h1 h2
    exact ⟨rfl, hle, hp⟩
  ·rw [if_neg c1] at h ⊢
   by_cases c2 : dgL c = true
   ·rw [if_pos c2] at h ⊢
    have hp : 0 < runL dgL (c :: r) := by rw [runL_cons, if_pos c2]; omega
    rw [hrd, g1, g2, cond_app he]
    have hk2 : (match (c :: r).drop (runL dgL (c :: r)) with
      | p :: d :: _ => p == 46 && dgL d
      | _ => false) = true → (c :: (r ++ e :: b)).drop (runL dgL (c :: r) + 1) = (c :: r).drop (runL dgL (c :: r) + 1) ++ e :: b ∧ runL dgL (c :: r) + 1 ≤ (c :: r).length := by
     intro hq
     have hl : runL dgL (c :: r) + 1 ≤ (c :: r).length := by
      cases ee : (c :: r).drop (runL dgL (c :: r)) with
      | nil => rw [ee] at hq; cases hq
      | cons p q =>
       have := congrArg List.length ee
       rw [List.length_drop] at this
       simp only [List.length_cons] at this ⊢
       omega
     exact ⟨drop_app (c :: r) (e :: b) _ hl, hl⟩
    generalize (match (c :: r).drop (runL dgL (c :: r)) with
      | p :: d :: _ => p == 46 && dgL d
      | _ => false) = cnd at h hk2 ⊢
    cases cnd with
    | true =>
     obtain ⟨e1, e2⟩ := hk2 rfl
     rw [if_pos rfl] at h ⊢
     rw [e1]
     have hr2 := runL_app (f := dgL) d32 b ((c :: r).drop (runL dgL (c :: r) + 1))
     have hl2 := runL_le dgL ((c :: r).drop (runL dgL (c :: r) + 1))
     rw [hr2, take_app _ _ _ hl2]
     split at h
     ·cases h
     ·next q =>
      rw [if_neg q]
      injection h with h
      injection h with h1 h2
      subst h1 h2
      refine ⟨rfl, ?_, by omega⟩
      rw [List.length_drop] at hl2
      omega
    | false =>
     rw [if_neg (by decide)] at h ⊢
     split at h
     ·cases h
     ·next q =>
      rw [if_neg q]
      injection h with h
      injection h with h1 h2
      subst h1 h2
      exact ⟨rfl, hld, hp⟩
   ·rw [if_neg c2] at h ⊢
    by_cases c3 : c = 39
    ·rw [if_pos c3] at h ⊢
     cases hx : textL r with
     | none => rw [hx] at h; cases h
     | some x =>
      obtain ⟨t1, t2⟩ := textL_app q32 b r x hx
      rw [hx] at h
      rw [t1]
      simp only at h ⊢
      split at h
      ·cases h
      ·next q =>
       rw [if_neg q]
       injection h with h
       injection h with h1 h2
       subst h1 h2
       exact ⟨rfl, by simp; omega, by omega⟩
    ·rw [if_neg c3] at h ⊢
     by_cases c4 : signL (c :: r) = 0
     ·rw [if_pos c4] at h; cases h
     ·rw [if_neg c4] at h
      obtain ⟨s1, s2⟩ := signL_app he b (c :: r) c4
      rw [happ] at s1
      rw [s1, if_neg c4, ← happ, take_app _ _ _ s2]
      injection h with h
      injection h with h1 h2
      subst h1 h2
      exact ⟨rfl, s2, by omega⟩
end Go.Proofs.YtofnkfjhmjecjaaGreatDoor
