/-
  Texts of mine put together, in build order.
  Conditions: as each declaration says.
-/
import Derived.Test.YtmmchhlfbhbigaaDoorRows
import Derived.WalkKit
import Derived.Lib.Hide
import Derived.Below
import Derived.OwnWalk
import Derived.Laws.AppendOwn
import Derived.Laws.OwnMore
import Derived.Deep.AppendLies
import Derived.Deep.DeepMust
import Derived.Laws.BytesArg
import Derived.Lib.SmallJoins
import Derived.Laws.FloatArith
import Derived.WalkLawsBesides
import Derived.Laws.Bits64b
import Derived.Laws.Externs
import Derived.Deep.DeepCutAuto
import Derived.Deep.QuietTactic
import Derived.BigQuiet
import Derived.Maps.Range
import Derived.Maps.OwnOps
import Derived.Lib.TrailingZeros
import Derived.Lib.LaidTab
import Derived.Laws.BitsAllLaws
import Derived.Laws.Bits128
import Derived.Shelf.Lays7
import Derived.Shelf.Spec.TrailingZeros
import Derived.WalkSpells
namespace Go.Proofs.YtmmchhlfbhbigaaDoor
set_option maxRecDepth 100000
open Go.RowKit

theorem bcell {W w1 : World} (hb : Below W.heap.size W w1) : (∀ b o, b < W.heap.size → w1.cell? ⟨b, o, none⟩ = W.cell? ⟨b, o, none⟩) ∧ (∀ b o, b < W.heap.size → w1.frozen? ⟨b, o, none⟩ = W.frozen? ⟨b, o, none⟩) :=
  ⟨fun b o h => hb.cell (p := ⟨b, o, none⟩) h, fun b o h => hb.frozen (p := ⟨b, o, none⟩) h⟩

theorem same' {P : Program} {f : FuncId} {args : Array Value} {w : World} {v : Value} (h : Calls P f args w fun e w' => e = .returned v ∧ w = w') : Calls P f args w fun e w' => e = .returned v ∧ w' = w :=
  h.mono fun _ _ ⟨a, b⟩ => ⟨a, b.symm⟩

end Go.Proofs.YtmmchhlfbhbigaaDoor

namespace Go.Proofs.YtmmchhlfbhbigaaDoor
set_option maxRecDepth 100000
open Go.RowKit Go.Joins Go.ChangeShapes Go.WideShapes
set_option linter.unusedVariables false

theorem infoB : (Tryd.prog.info? 5).map (fun i => (i.zero, i.size, i.bytes)) = some (some (.int .u8 0), 1, 1) := by kernel_rfl

/-- the cells of a list of bytes -/
def bcells (l : List Nat) : List Value := l.map fun n : Nat => .int .u8 (n : Int)
theorem bcells_length (l : List Nat) : (bcells l).length = l.length := by simp [bcells]
theorem bcells_app (l r : List Nat) : bcells (l ++ r) = bcells l ++ bcells r := List.map_append
theorem bcells_one (l : List Nat) : ∀ u ∈ bcells l, u.oneCell' = true := by
  intro u hu
  obtain ⟨n, -, rfl⟩ := List.mem_map.1 hu
  rfl

/-- a slice of bytes that the call has made, from block 'base' on -/
def OwB (w : World) (base : Nat) (v : Value) (l : List Nat) : Prop := w.ownsRow base 5 1 v l.length (bcells l) ∧ v ≠ .slice none 0 0

theorem OwB.form {w : World} {base : Nat} {v : Value} {l : List Nat} (h : OwB w base v l) : ∃ g cap, v = .slice (some ⟨g, 0, none⟩) l.length cap ∧ base ≤ g ∧ g < w.heap.size ∧ ∀ j u, (bcells l)[j]? = some u → w.cell? ⟨g, j, none⟩ = some u := by
  obtain ⟨⟨h1, h2⟩, h3⟩ := h
  rcases h2 with ⟨e, _⟩ | ⟨g, cap, cur, e, hb, hg, hn, hc, hs, ht⟩
  · exact absurd e h3
  · refine ⟨g, cap, e, hb, (Array.getElem?_eq_some_iff.1 hg).1, fun j u hj => ?_⟩
    rw [cell_of_block hg j]
    rw [← ht, List.getElem?_take] at hj
    split at hj
    · rw [← Array.getElem?_toList]; exact hj
    · cases hj
theorem OwB.lt {w : World} {base : Nat} {v : Value} {l : List Nat} (h : OwB w base v l) : ∀ k, v.ownBlock = some k → base ≤ k ∧ k < w.heap.size := fun k hk => h.1.lt k hk
theorem OwB.alloc {w : World} {base : Nat} {v : Value} {l : List Nat} (h : OwB w base v l) (o : Obj) : OwB (w.alloc o) base v l := ⟨h.1.alloc o, h.2⟩
theorem OwB.below {w w' : World} {base : Nat} {v : Value} {l : List Nat} (h : OwB w base v l) (hb : Below w.heap.size w w') : OwB w' base v l :=
  ⟨h.1.kept (row := none) ⟨hb.os, hb.tape, hb.output, hb.size, fun i hi _ => hb.block i hi⟩ (by cases v.ownBlock <;> simp), h.2⟩
theorem OwB.le {w : World} {base base' : Nat} {v : Value} {l : List Nat} (h : OwB w base v l) (hb : base' ≤ base) : OwB w base' v l := ⟨ownsRow_le h.1 hb, h.2⟩

theorem own_ne {w : World} {base : Nat} {e : TypeId} {size : Nat} {v : Value} {n : Nat} {xs : List Value} {g : Nat} {cs : Array Value} {ty : TypeId} {fz : Nat × Nat} (h : w.ownsRow base e size v n xs) (hg : w.heap[g]? = some (.cells cs ty fz)) (hne : ty ≠ e) : v.ownBlock ≠ some g := by
  rcases h.2 with ⟨rfl, _⟩ | ⟨g', cap, cur, rfl, _, hg', _⟩
  · simp [Value.ownBlock]
  · intro hx
    simp only [Value.ownBlock, Option.some.injEq] at hx
    subst hx
    rw [hg] at hg'
    injection hg' with hg'
    injection hg' with _ h2 _
    exact hne h2

/-- a box with a value -/
abbrev BoxV (w : World) (g : Nat) (k n : Int) (s : ByteArray) : Prop := w.heap[g]? = some (.cells #[.int .i64 k, .int .i64 n, .string s] 134 (0, 0))
theorem boxV_new (w : World) (k n : Int) (s : ByteArray) : BoxV (w.alloc (.cells #[.int .i64 k, .int .i64 n, .string s] 134)) w.heap.size k n s := heap_alloc_new w _
theorem BoxV.cells {w : World} {g : Nat} {k n : Int} {s : ByteArray} (h : BoxV w g k n s) : w.cell? ⟨g, 0, none⟩ = some (.int .i64 k) ∧ w.cell? ⟨g, 1, none⟩ = some (.int .i64 n) ∧ w.cell? ⟨g, 2, none⟩ = some (.string s) := by
  refine ⟨?_, ?_, ?_⟩ <;> rw [cell_of_block h] <;> rfl
theorem BoxV.lt {w : World} {g : Nat} {k n : Int} {s : ByteArray} (h : BoxV w g k n s) : g < w.heap.size := (Array.getElem?_eq_some_iff.1 h).1
theorem BoxV.below {w w' : World} {g : Nat} {k n : Int} {s : ByteArray} (h : BoxV w g k n s) (hb : Below w.heap.size w w') : BoxV w' g k n s := (hb.block g h.lt).trans h
theorem BoxV.alloc {w : World} {g : Nat} {k n : Int} {s : ByteArray} (h : BoxV w g k n s) (o : Obj) : BoxV (w.alloc o) g k n s := h.below ((Below.refl _ _).alloc (Nat.le_refl _) _)
theorem ty_ne : (134 : TypeId) ≠ 5 := by decide
theorem BoxV.grown {w w' : World} {base g : Nat} {k n : Int} {s : ByteArray} {v : Value} {l : List Nat} (h : BoxV w g k n s) (ho : OwB w base v l) (hg : w.grownBy w' v.ownBlock) : BoxV w' g k n s :=
  (hg.block g h.lt (fun e => own_ne ho.1 h ty_ne e.symm)).trans h

/-- append onto a slice of bytes of the call's own -/
theorem wp_push {ops : Array Oper} {rest : List Oper} {o : Oper} {a : Act} {w : World} {Q : Exit → Act → World → Prop} (hgd : o.guard = none) (s x : Operand)
    (ho : o.op = .call { callee := .builtin .append, args := #[s, x], argTypes := #[30, 30] })
    (base : Nat) (v : Value) (l : List Nat) (hs : a.eval s = v) (hown : OwB w base v l) (ad : Addr) (m c : Nat) (r : List Nat) (hx : a.eval x = .slice (some ad) m c) (hm : r.length = m)
    (hnews : ∀ j u, (bcells r)[j]? = some u → w.cell? (ad.add j) = some u) (hsz : l.length + m ≤ 70368744177664) (hbase : base ≤ w.heap.size)
    (h : ∀ v' w', OwB w' base v' (l ++ r) → w.grownBy w' v.ownBlock → wpList Tryd.prog ops Q rest (a.put o.dst v') w') : wpList Tryd.prog ops Q (o :: rest) a w := by
  obtain ⟨i0, hi, hz0, hz1, hz2⟩ := info_parts infoB
  refine wpList_append_own w hgd s x _ ho base 5 i0 _ 1 1 Tryd.underlying30 hi hz0 hz1 hz2 rfl (by decide) v l.length (bcells l) hs hown.1 ad m c (bcells r) hx (by rw [bcells_length, hm, Nat.mul_one]) hnews (bcells_one r) (by unfold maxLen; omega) (by omega) hbase ?_
  intro v' w' h1 h2 h3
  refine h v' w' ⟨?_, fun e => hown.2 (h3.1 e).1⟩ h2
  rw [bcells_app, List.length_append, hm]
  exact h1

theorem boxV_push {wx w1 : World} {base g : Nat} {k n : Int} {s : ByteArray} {v : Value} {l : List Nat} (h : BoxV wx g k n s) (o : Obj) (ho : OwB wx base v l) (hg : (wx.alloc o).grownBy w1 v.ownBlock) : BoxV w1 g k n s :=
  (h.alloc o).grown (ho.alloc o) hg

/-- one byte, two bytes that were just put together -/
theorem news1 (w : World) (x : Nat) : ∀ j u, (bcells [x])[j]? = some u → (w.alloc (.cells #[.int .u8 (x : Int)] 5)).cell? ((⟨w.heap.size, 0, none⟩ : Addr).add j) = some u :=
  World.news_of_block (cs := #[.int .u8 (x : Int)]) (heap_alloc_new w _)
theorem news2 (w : World) (x y : Nat) : ∀ j u, (bcells [x, y])[j]? = some u → (w.alloc (.cells #[.int .u8 (x : Int), .int .u8 (y : Int)] 5)).cell? ((⟨w.heap.size, 0, none⟩ : Addr).add j) = some u :=
  World.news_of_block (cs := #[.int .u8 (x : Int), .int .u8 (y : Int)]) (heap_alloc_new w _)
theorem news1' (w : World) (x : Nat) (z : Int) (hz : z = (x : Int)) : ∀ j u, (bcells [x])[j]? = some u → (w.alloc (.cells #[.int .u8 z] 5)).cell? ((⟨w.heap.size, 0, none⟩ : Addr).add j) = some u := by
  subst hz
  exact news1 w x
theorem add0 (g j : Nat) : (⟨g, 0, none⟩ : Addr).add j = ⟨g, j, none⟩ := by unfold Addr.add; split <;> simp_all

/-- the state of a loop that writes bytes: what was there stays, the bytes so far -/
structure En (W w : World) (B : Nat) (v : Value) (l : List Nat) : Prop where
  own : OwB w B v l
  bel : Below B W w
  sz : B ≤ w.heap.size
theorem En.alloc {W w : World} {B : Nat} {v : Value} {l : List Nat} (h : En W w B v l) (o : Obj) : En W (w.alloc o) B v l := ⟨h.own.alloc o, h.bel.alloc h.sz o, by simp; exact Nat.le_succ_of_le h.sz⟩
theorem En.step {W w w' : World} {B : Nat} {v : Value} {l : List Nat} (h : En W w B v l) (hb : Below w.heap.size w w') : En W w' B v l := ⟨h.own.below hb, h.bel.trans (hb.mono h.sz), Nat.le_trans h.sz hb.size⟩
theorem En.push {W w w' : World} {B : Nat} {v v' : Value} {l l' : List Nat} (h : En W w B v l) (ho : OwB w' B v' l') (hg : w.grownBy w' v.ownBlock) : En W w' B v' l' :=
  ⟨ho, h.bel.grown hg h.sz (fun k hk => (h.own.lt k hk).1), Nat.le_trans h.sz hg.size⟩

/-- the text of a list of bytes -/
def strB (l : List Nat) : ByteArray := strOfNums (l.map fun n : Nat => (n : Int))
theorem str_own {w : World} {base : Nat} {v : Value} {l : List Nat} (h : OwB w base v l) : (convert 30 9 v).run Tryd.prog w = .ok (.string (strB l)) w := by
  obtain ⟨g, cap, rfl, -, -, hc⟩ := h.form
  refine run_convert_bytes_arg w 30 5 Tryd.underlying30 Tryd.underlying5 g 0 l.length cap (l.map fun n : Nat => (n : Int)) (by simp) (fun i hi => ?_) 9 Tryd.underlying9
  rw [Nat.zero_add]
  refine hc i _ ?_
  simp only [bcells, List.getElem?_map]
  rw [List.getElem?_eq_getElem hi]
  simp [List.getD_eq_getElem?_getD, List.getElem?_map, List.getElem?_eq_getElem hi]

/-- a text's bytes -/
def sl (s : ByteArray) : List Nat := s.data.toList.map fun b => b.toNat
theorem sl_length (s : ByteArray) : (sl s).length = s.size := by
  unfold sl
  rw [List.length_map, Array.length_toList]
  rfl
theorem sl_lt (s : ByteArray) : ∀ x ∈ sl s, x < 256 := by
  intro x hx
  obtain ⟨b, -, rfl⟩ := List.mem_map.1 hx
  exact b.toNat_lt
theorem strB_data (l : List Nat) : (strB l).data.toList = l.map fun n => UInt8.ofNat n := by
  unfold strB
  rw [strOfNums_data]
  simp
theorem sl_strB {l : List Nat} (h : ∀ x ∈ l, x < 256) : sl (strB l) = l := by
  unfold sl
  rw [strB_data, List.map_map]
  conv => rhs; rw [← List.map_id l]
  refine List.map_congr_left fun x hx => ?_
  simp only [Function.comp, id]
  rw [UInt8.toNat_ofNat']
  exact Nat.mod_eq_of_lt (h x hx)
theorem strB_sl (s : ByteArray) : strB (sl s) = s := by
  have h : (strB (sl s)).data.toList = s.data.toList := by
    rw [strB_data]
    unfold sl
    rw [List.map_map]
    conv => rhs; rw [← List.map_id s.data.toList]
    refine List.map_congr_left fun x hx => ?_
    simp
  have h2 : (strB (sl s)).data = s.data := Array.toList_inj.1 h
  cases hs : strB (sl s) with
  | mk d => rw [hs] at h2; cases s with | mk e => simp at h2; rw [h2]
theorem strB_inj {l r : List Nat} (hl : ∀ x ∈ l, x < 256) (hr : ∀ x ∈ r, x < 256) (h : strB l = strB r) : l = r := by
  rw [← sl_strB hl, ← sl_strB hr, h]

end Go.Proofs.YtmmchhlfbhbigaaDoor

namespace Go.Proofs.YtmmchhlfbhbigaaDoor
set_option maxRecDepth 100000
open Ieee

def rnan (b : Nat) : Bool := double.order b b != some .eq
def sg (b : Nat) : Bool := b / 9223372036854775808 % 2 == 1
def rg (b : Nat) : Nat := b % 9223372036854775808
def INF : Nat := 9218868437227405312
def M (r : Nat) : Nat := if r < 4503599627370496 then r else 4503599627370496 + r % 4503599627370496
def E (r : Nat) : Nat := r / 4503599627370496 - 1
def V (r : Nat) : Nat := M r * 2 ^ E r

theorem read_num (b : Nat) (h : rg b < INF) : double.read b = .number (sg b) (M (rg b)) (-1074 + (E (rg b) : Nat)) := by
  unfold Format.read
  have e1 : double.signWeight = 9223372036854775808 := by decide
  have e2 : double.binade = 4503599627370496 := by decide
  have e3 : double.infRung = 9218868437227405312 := by decide
  have e4 : double.leastPlace = -1074 := by decide
  rw [e1, e2, e3, e4]
  dsimp only
  change rg b < 9218868437227405312 at h
  change (if rg b < 4503599627370496 then Datum.number (sg b) (rg b) (-1074) else if rg b < 9218868437227405312 then Datum.number (sg b) (4503599627370496 + rg b % 4503599627370496) (-1074 + ((rg b / 4503599627370496 - 1 : Nat) : Int)) else _) = _
  unfold M E
  by_cases c : rg b < 4503599627370496
  · rw [if_pos c, if_pos c, Nat.div_eq_of_lt c]; rfl
  · rw [if_neg c, if_neg c, if_pos h]

theorem read_inf (b : Nat) (h : rg b = INF) : double.read b = .infinity (sg b) := by
  unfold Format.read
  have e1 : double.signWeight = 9223372036854775808 := by decide
  have e2 : double.binade = 4503599627370496 := by decide
  have e3 : double.infRung = 9218868437227405312 := by decide
  rw [e1, e2, e3]
  dsimp only
  change rg b = 9218868437227405312 at h
  change (if rg b < 4503599627370496 then _ else if rg b < 9218868437227405312 then _ else if rg b = 9218868437227405312 then Datum.infinity (sg b) else _) = _
  rw [if_neg (by omega), if_neg (by omega), if_pos h]

theorem read_nan (b : Nat) (h : INF < rg b) : ∃ n f, double.read b = .nan n f := by
  unfold Format.read
  have e1 : double.signWeight = 9223372036854775808 := by decide
  have e2 : double.binade = 4503599627370496 := by decide
  have e3 : double.infRung = 9218868437227405312 := by decide
  rw [e1, e2, e3]
  dsimp only
  change 9218868437227405312 < rg b at h
  change ∃ n f, (if rg b < 4503599627370496 then _ else if rg b < 9218868437227405312 then _ else if rg b = 9218868437227405312 then _ else Datum.nan (sg b) (rg b - 9218868437227405312)) = _
  rw [if_neg (by omega), if_neg (by omega), if_neg (by omega)]
  exact ⟨_, _, rfl⟩

theorem M_lt (r : Nat) : M r < 9007199254740992 := by unfold M; split <;> omega

theorem V_succ (r : Nat) : V r < V (r + 1) := by
  unfold V M E
  by_cases c : r + 1 < 4503599627370496
  · rw [if_pos (by omega), if_pos c, Nat.div_eq_of_lt (by omega), Nat.div_eq_of_lt c]; simp
  · by_cases c2 : r + 1 = 4503599627370496
    · obtain rfl : r = 4503599627370495 := by omega
      decide
    · rw [if_neg (by omega), if_neg c]
      by_cases c3 : r % 4503599627370496 + 1 < 4503599627370496
      · have h1 : (r + 1) / 4503599627370496 = r / 4503599627370496 := by omega
        have h2 : (r + 1) % 4503599627370496 = r % 4503599627370496 + 1 := by omega
        rw [h1, h2]
        exact Nat.mul_lt_mul_of_pos_right (by omega) (Nat.two_pow_pos _)
      · have h1 : (r + 1) / 4503599627370496 - 1 = (r / 4503599627370496 - 1) + 1 := by omega
        have h2 : (r + 1) % 4503599627370496 = 0 := by omega
        rw [h1, h2, Nat.pow_succ, Nat.mul_comm (2 ^ _) 2, ← Nat.mul_assoc]
        exact Nat.mul_lt_mul_of_pos_right (by omega) (Nat.two_pow_pos _)

theorem V_mono {r q : Nat} (h : r < q) : V r < V q := by
  induction q with
  | zero => omega
  | succ q ih =>
    by_cases c : r = q
    · subst c; exact V_succ _
    · exact Nat.lt_trans (ih (by omega)) (V_succ _)

theorem V_zero : V 0 = 0 := by decide

/-- a word's place in the order: its rung, with the sign -/
def pl (b : Nat) : Int := if sg b then -(rg b : Int) else (rg b : Int)

def sV (s : Bool) (r : Nat) : Int := if s then -(V r : Int) else (V r : Int)

theorem sV_lt (s t : Bool) (r q : Nat) : sV s r < sV t q ↔ (if s then -(r : Int) else r) < (if t then -(q : Int) else q) := by
  have z := V_zero
  have hr : r = 0 ∨ (0 < V r ∧ 0 < r) := by
    by_cases c : r = 0
    · exact .inl c
    · right; have := V_mono (r := 0) (q := r) (by omega); exact ⟨by omega, by omega⟩
  have hq : q = 0 ∨ (0 < V q ∧ 0 < q) := by
    by_cases c : q = 0
    · exact .inl c
    · right; have := V_mono (r := 0) (q := q) (by omega); exact ⟨by omega, by omega⟩
  rcases Nat.lt_trichotomy r q with c | c | c
  · have := V_mono c
    cases s <;> cases t <;> simp [sV] <;> omega
  · subst c
    rcases hr with rfl | hr
    · cases s <;> cases t <;> simp [sV, z]
    · cases s <;> cases t <;> simp [sV] <;> omega
  · have := V_mono c
    cases s <;> cases t <;> simp [sV] <;> omega

theorem sV_eq (s t : Bool) (r q : Nat) : sV s r = sV t q ↔ (if s then -(r : Int) else (r : Int)) = (if t then -(q : Int) else q) := by
  have h1 := sV_lt s t r q
  have h2 := sV_lt t s q r
  omega

theorem signed_shift (s : Bool) (m u k : Nat) : signed s m u * (2 ^ k : Nat) = signed s m (u + k) := by
  unfold signed
  have : m <<< (u + k) = m <<< u * 2 ^ k := by rw [Nat.shiftLeft_eq, Nat.shiftLeft_eq, Nat.pow_add, Nat.mul_assoc]
  rw [this]
  cases s <;> simp [Int.neg_mul]

theorem signed_V (s : Bool) (r : Nat) : signed s (M r) (E r) = sV s r := by
  unfold signed sV V
  rw [Nat.shiftLeft_eq]

theorem compare_scaled (a b : Int) (k : Nat) : compare a b = compare (a * (2 ^ k : Nat)) (b * (2 ^ k : Nat)) := by
  have hk : (0 : Int) < ((2 ^ k : Nat) : Int) := by have := Nat.two_pow_pos k; omega
  simp only [compare, compareOfLessAndEq]
  have h1 : a < b ↔ a * ((2 ^ k : Nat) : Int) < b * ((2 ^ k : Nat) : Int) := (Int.mul_lt_mul_right hk).symm
  have h2 : a = b ↔ a * ((2 ^ k : Nat) : Int) = b * ((2 ^ k : Nat) : Int) := ⟨fun h => by rw [h], fun h => Int.eq_of_mul_eq_mul_right (by omega) h⟩
  simp only [h1, h2]

theorem compare_sV (s t : Bool) (r q : Nat) : compare (sV s r) (sV t q) = compare (if s then -(r : Int) else (r : Int)) (if t then -(q : Int) else q) := by
  simp only [compare, compareOfLessAndEq, sV_lt, sV_eq]

theorem cmp_lt {a b : Int} (h : a < b) : compare a b = .lt := by simp [compare, compareOfLessAndEq, h]
theorem cmp_gt {a b : Int} (h : b < a) : compare a b = .gt := by
  have h1 : ¬ a < b := by omega
  have h2 : ¬ a = b := by omega
  simp [compare, compareOfLessAndEq, h1, h2]
theorem cmp_eq {a b : Int} (h : a = b) : compare a b = .eq := by subst h; simp [compare, compareOfLessAndEq]

theorem order_pl (x y : Nat) (hx : rg x ≤ INF) (hy : rg y ≤ INF) : double.order x y = some (compare (pl x) (pl y)) := by
  unfold Format.order
  by_cases cx : rg x = INF
  · rw [read_inf x cx]
    by_cases cy : rg y = INF
    · rw [read_inf y cy]
      unfold Datum.order pl
      rw [cx, cy]
      cases sg x <;> cases sg y <;> decide
    · rw [read_num y (by omega)]
      unfold Datum.order pl
      rw [cx]
      have hy' : (rg y : Int) < INF := by omega
      have hy0 : (0 : Int) ≤ rg y := by omega
      unfold INF at *
      cases sg x <;> cases sg y <;> first | (rw [cmp_lt (by simp; omega)]; rfl) | (rw [cmp_gt (by simp; omega)]; rfl)
  · rw [read_num x (by omega)]
    by_cases cy : rg y = INF
    · rw [read_inf y cy]
      unfold Datum.order pl
      rw [cy]
      have hy' : (rg x : Int) < INF := by omega
      have hy0 : (0 : Int) ≤ rg x := by omega
      unfold INF at *
      cases sg x <;> cases sg y <;> first | (rw [cmp_lt (by simp; omega)]; rfl) | (rw [cmp_gt (by simp; omega)]; rfl)
    · rw [read_num y (by omega)]
      unfold Datum.order
      dsimp only
      generalize hb : min (-1074 + (E (rg x) : Int)) (-1074 + (E (rg y) : Int)) = base
      rw [compare_scaled _ _ (base + 1074).toNat, signed_shift, signed_shift]
      have e1 : (-1074 + (E (rg x) : Int) - base).toNat + (base + 1074).toNat = E (rg x) := by omega
      have e2 : (-1074 + (E (rg y) : Int) - base).toNat + (base + 1074).toNat = E (rg y) := by omega
      rw [e1, e2, signed_V, signed_V, compare_sV]
      rfl

theorem order_nan (x y : Nat) (h : INF < rg x ∨ INF < rg y) : double.order x y = none := by
  unfold Format.order
  rcases h with h | h
  · obtain ⟨n, f, e⟩ := read_nan x h
    rw [e]; rfl
  · obtain ⟨n, f, e⟩ := read_nan y h
    rw [e]
    cases double.read x <;> rfl

theorem rnan_iff (b : Nat) : rnan b = decide (INF < rg b) := by
  unfold rnan
  by_cases h : INF < rg b
  · rw [order_nan b b (.inl h)]; simp [h]
  · rw [order_pl b b (by omega) (by omega)]; simp [h, compare, compareOfLessAndEq]

theorem log2_eq {n k : Nat} (h1 : 2 ^ k ≤ n) (h2 : n < 2 ^ (k + 1)) : n.log2 = k := by
  have hn : n ≠ 0 := by have := Nat.two_pow_pos k; omega
  have a := (Nat.le_log2 hn).2 h1
  have b := (Nat.log2_lt hn).2 h2
  omega

theorem log2_bounds {n : Nat} (hn : n ≠ 0) : 2 ^ n.log2 ≤ n ∧ n < 2 ^ (n.log2 + 1) :=
  ⟨(Nat.le_log2 hn).1 (Nat.le_refl _), (Nat.log2_lt hn).1 (Nat.lt_succ_self _)⟩

theorem log2_shift {n : Nat} (k : Nat) (hn : n ≠ 0) : (n * 2 ^ k).log2 = n.log2 + k := by
  obtain ⟨a, b⟩ := log2_bounds hn
  refine log2_eq ?_ ?_
  · rw [Nat.pow_add]; exact Nat.mul_le_mul_right _ a
  · rw [show n.log2 + k + 1 = (n.log2 + 1) + k from by omega, Nat.pow_add]
    exact Nat.mul_lt_mul_of_pos_right b (Nat.two_pow_pos _)

theorem cut_exact (way : Toward) (s : Bool) (m k : Nat) (hm : m ≠ 0) : way.cut s (m * 2 ^ k) k = m := by
  unfold Toward.cut
  have h1 : min k ((m * 2 ^ k).log2 + 2) = k := by rw [log2_shift k hm]; omega
  have h2 : m * 2 ^ k / 2 ^ k = m := Nat.mul_div_cancel _ (Nat.two_pow_pos _)
  have h3 : m * 2 ^ k % 2 ^ k = 0 := Nat.mul_mod_left _ _
  have h4 : 0 < 2 ^ k := Nat.two_pow_pos _
  dsimp only
  rw [h1, Nat.shiftLeft_eq, Nat.one_mul, h2, h3]
  cases way <;> simp

theorem word_sr (s : Bool) (r : Nat) : double.word s r = (if s then 9223372036854775808 else 0) + r := by
  unfold Format.word
  have e1 : double.signWeight = 9223372036854775808 := by decide
  rw [e1]
  cases s <;> simp

theorem word_eq (b : Nat) (h : b < 18446744073709551616) : double.word (sg b) (rg b) = b := by
  rw [word_sr]
  unfold sg rg
  by_cases c : b / 9223372036854775808 % 2 = 1 <;> simp [c] <;> omega

theorem sg_word (s : Bool) (r : Nat) (h : r < 9223372036854775808) : sg (double.word s r) = s := by
  rw [word_sr]
  unfold sg
  cases s <;> simp <;> omega

theorem rg_word (s : Bool) (r : Nat) (h : r < 9223372036854775808) : rg (double.word s r) = r := by
  rw [word_sr]
  unfold rg
  cases s <;> simp <;> omega

theorem M_zero {r : Nat} : M r = 0 ↔ r = 0 := by
  unfold M
  split <;> omega

theorem log2_M_sub {r : Nat} (h : r < 4503599627370496) (h0 : r ≠ 0) : (M r).log2 < 52 := by
  unfold M
  rw [if_pos h]
  exact (Nat.log2_lt h0).2 (by omega)

theorem log2_M_norm {r : Nat} (h : ¬ r < 4503599627370496) : (M r).log2 = 52 := by
  unfold M
  rw [if_neg h]
  exact log2_eq (by omega) (by omega)

theorem rung_split {r : Nat} (h : 4503599627370496 ≤ r) : E r * 4503599627370496 + M r = r := by
  unfold E M
  rw [if_neg (by omega)]
  have h1 := Nat.div_add_mod r 4503599627370496
  have h2 : 1 ≤ r / 4503599627370496 := by omega
  generalize r / 4503599627370496 = q at *
  generalize r % 4503599627370496 = m at *
  omega

theorem nearest_exact (s : Bool) (r k : Nat) (h : r < INF) : double.nearest s (M r * 2 ^ k) (-1074 + (E r : Nat) - k) = double.word s r := by
  unfold Format.nearest
  have e1 : double.fractionBits = 52 := rfl
  have e2 : double.binade = 4503599627370496 := by decide
  have e3 : double.infRung = 9218868437227405312 := by decide
  have e4 : double.leastPlace = -1074 := by decide
  by_cases c : r = 0
  · subst c; rw [if_pos (by rw [M_zero.2 rfl, Nat.zero_mul])]
  · have hM : M r ≠ 0 := fun e => c (M_zero.1 e)
    have hk : M r * 2 ^ k ≠ 0 := Nat.mul_ne_zero hM (by have := Nat.two_pow_pos k; omega)
    rw [if_neg hk]
    dsimp only
    rw [e1, e2, e3, e4, log2_shift k hM]
    unfold INF at h
    by_cases d : r < 4503599627370496
    · have hl := log2_M_sub d c
      have hE : E r = 0 := by unfold E; omega
      have h1 : max (-1074 + (E r : Int) - k + ((M r).log2 + k : Nat) - (52 : Nat)) (-1074) = -1074 := by omega
      rw [h1]
      have h2 : (-1074 + (E r : Int) - k - -1074).toNat = 0 := by omega
      have h3 : (-1074 - (-1074 + (E r : Int) - k)).toNat = k := by omega
      have h4 : (-1074 - -1074 : Int).toNat = 0 := by omega
      rw [h2, h3, h4, Nat.shiftLeft_zero, cut_exact _ _ _ _ hM]
      rw [Nat.zero_mul, Nat.zero_add, show M r = r from by unfold M; exact if_pos d, Nat.min_eq_left (by omega)]
    · have hl := log2_M_norm d
      have hE : (E r : Int) = r / 4503599627370496 - 1 := by unfold E; omega
      have h1 : max (-1074 + (E r : Int) - k + ((M r).log2 + k : Nat) - (52 : Nat)) (-1074) = -1074 + E r := by omega
      rw [h1]
      have h2 : (-1074 + (E r : Int) - k - (-1074 + (E r : Int))).toNat = 0 := by omega
      have h3 : (-1074 + (E r : Int) - (-1074 + (E r : Int) - k)).toNat = k := by omega
      have h4 : (-1074 + (E r : Int) - -1074).toNat = E r := by omega
      rw [h2, h3, h4, Nat.shiftLeft_zero, cut_exact _ _ _ _ hM]
      rw [rung_split (by omega), Nat.min_eq_left (by omega)]

theorem sum_comm (x y : Datum) : x.sum y = y.sum x := by
  cases x <;> cases y <;> simp only [Datum.sum]
  · rename_i s m i t n j
    rw [Int.min_comm i j, Int.add_comm (signed s _ _), Bool.and_comm s t]
  · rename_i s t
    by_cases h : s = t
    · subst h; rfl
    · rw [if_neg h, if_neg (fun e => h e.symm)]

theorem product_comm (x y : Datum) : x.product y = y.product x := by
  cases x <;> cases y <;> simp only [Datum.product]
  · rename_i s m i t n j
    rw [Bool.xor_comm, Nat.mul_comm, Int.add_comm]
  · rename_i s t
    rw [Bool.xor_comm]

theorem add_comm' (x y : Nat) : double.add x y = double.add y x := by
  unfold Format.add; rw [sum_comm]

theorem mul_comm' (x y : Nat) : double.mul x y = double.mul y x := by
  unfold Format.mul; rw [product_comm]

/-- the word with the other sign -/
def ng (b : Nat) : Nat := b ^^^ 2 ^ 63

theorem ng_eq (b : Nat) (h : b < 18446744073709551616) : ng b = if b < 9223372036854775808 then b + 9223372036854775808 else b - 9223372036854775808 := by
  unfold ng
  have e : b = (b / 2 ^ 63) * 2 ^ 63 + b % 2 ^ 63 := by omega
  have hlt : b % 2 ^ 63 < 2 ^ 63 := Nat.mod_lt _ (by decide)
  have hx : b ^^^ 2 ^ 63 = ((b / 2 ^ 63) ^^^ 1) * 2 ^ 63 + b % 2 ^ 63 := by
    apply Nat.eq_of_testBit_eq
    intro i
    rw [Nat.testBit_xor, Nat.testBit_two_pow, Nat.mul_comm, Nat.testBit_two_pow_mul_add _ hlt, Nat.testBit_xor, Nat.testBit_div_two_pow, Nat.testBit_mod_two_pow]
    by_cases c : i < 63
    · have : ¬ 63 = i := by omega
      simp [c, this]
    · rw [if_neg c, show i - 63 + 63 = i from by omega, show (1 : Nat) = 2 ^ 0 from rfl, Nat.testBit_two_pow]
      have : (0 = i - 63) = (63 = i) := propext ⟨fun _ => by omega, fun _ => by omega⟩
      simp only [this]
  rw [hx]
  by_cases c : b < 9223372036854775808
  · rw [if_pos c, show b / 2 ^ 63 = 0 from by omega, show (0 ^^^ 1 : Nat) = 1 from rfl]; omega
  · rw [if_neg c, show b / 2 ^ 63 = 1 from by omega, show (1 ^^^ 1 : Nat) = 0 from rfl]; omega

theorem sg_ng (b : Nat) (h : b < 18446744073709551616) : sg (ng b) = !sg b := by
  rw [ng_eq b h]
  unfold sg
  by_cases c : b < 9223372036854775808
  · rw [if_pos c, show b / 9223372036854775808 = 0 from by omega, show (b + 9223372036854775808) / 9223372036854775808 = 1 from by omega]; rfl
  · rw [if_neg c, show b / 9223372036854775808 = 1 from by omega, show (b - 9223372036854775808) / 9223372036854775808 = 0 from by omega]; rfl

theorem rg_ng (b : Nat) (h : b < 18446744073709551616) : rg (ng b) = rg b := by
  rw [ng_eq b h]
  unfold rg
  by_cases c : b < 9223372036854775808
  · rw [if_pos c]; omega
  · rw [if_neg c]; omega

theorem ng_lt (b : Nat) (h : b < 18446744073709551616) : ng b < 18446744073709551616 := by
  rw [ng_eq b h]; split <;> omega

theorem ng_ng (b : Nat) : ng (ng b) = b := by unfold ng; rw [Nat.xor_assoc, Nat.xor_self, Nat.xor_zero]

theorem rg_trichotomy (b : Nat) : rg b < INF ∨ rg b = INF ∨ INF < rg b := Nat.lt_trichotomy _ _

theorem sub_add (x y : Nat) (hy : y < 18446744073709551616) : double.sub x y = double.add x (ng y) := by
  unfold Format.sub Format.add
  rcases rg_trichotomy y with h | h | h
  · rw [read_num y h, read_num (ng y) (by rw [rg_ng y hy]; exact h), rg_ng y hy, sg_ng y hy]; rfl
  · rw [read_inf y h, read_inf (ng y) (by rw [rg_ng y hy]; exact h), sg_ng y hy]; rfl
  · obtain ⟨n, f, e⟩ := read_nan y h
    obtain ⟨n', f', e'⟩ := read_nan (ng y) (by rw [rg_ng y hy]; exact h)
    rw [e, e']
    cases double.read x <;> rfl

/-! what a product and a quotient with 1 are -/

theorem rnan_false {b : Nat} (h : rnan b = false) : rg b ≤ INF := by
  rw [rnan_iff] at h; simp at h; exact h

def one : Nat := 4607182418800017408

theorem read_one : double.read one = .number false 4503599627370496 (-52) := by decide

theorem write_read (b : Nat) (hb : b < 18446744073709551616) (h : rg b ≤ INF) : double.write (double.read b) = b := by
  by_cases c : rg b = INF
  · rw [read_inf b c]
    unfold Format.write
    have e3 : double.infRung = INF := by decide
    dsimp only
    rw [e3, ← c, word_eq b hb]
  · rw [read_num b (by omega)]
    unfold Format.write
    have := nearest_exact (sg b) (rg b) 0 (by omega)
    rw [Nat.pow_zero, Nat.mul_one, show -1074 + (E (rg b) : Int) - ((0 : Nat) : Int) = -1074 + (E (rg b) : Int) from by omega] at this
    dsimp only
    rw [this, word_eq b hb]

theorem mul_one' (b : Nat) (hb : b < 18446744073709551616) (h : rg b ≤ INF) : double.mul b one = some b := by
  unfold Format.mul
  rw [read_one]
  by_cases c : rg b = INF
  · rw [read_inf b c]
    unfold Datum.product
    have := write_read b hb h
    rw [read_inf b c] at this
    simp only [Bool.xor_false]
    rw [if_neg (by decide), Option.map_some, this]
  · rw [read_num b (by omega)]
    unfold Datum.product
    have := nearest_exact (sg b) (rg b) 52 (by omega)
    rw [word_eq b hb] at this
    simp only [Bool.xor_false, Option.map_some, Format.write]
    rw [show (4503599627370496 : Nat) = 2 ^ 52 from by decide, show -1074 + (E (rg b) : Int) + -52 = -1074 + (E (rg b) : Int) - (52 : Nat) from by omega, this]

theorem div_one' (b : Nat) (hb : b < 18446744073709551616) (h : rg b ≤ INF) : double.div b one = some b := by
  unfold Format.div
  rw [read_one]
  by_cases c : rg b = INF
  · rw [read_inf b c]
    unfold Datum.quotient
    have := write_read b hb h
    rw [read_inf b c] at this
    simp only [Bool.xor_false]
    rw [Option.map_some, this]
  · rw [read_num b (by omega)]
    unfold Datum.quotient
    have hl : (4503599627370496 : Nat).log2 = 52 := log2_eq (by decide) (by decide)
    have hf : double.fractionBits = 52 := rfl
    have hM : (M (rg b)).log2 ≤ 52 := by
      by_cases z : M (rg b) = 0
      · rw [z]; decide
      · have := (Nat.log2_lt z).2 (show M (rg b) < 2 ^ 53 from M_lt _); omega
    dsimp only
    rw [if_neg (by decide), hl, hf]
    obtain ⟨j, hj⟩ : ∃ j, 52 + 2 + 52 - (M (rg b)).log2 = 52 + j := ⟨54 - (M (rg b)).log2, by omega⟩
    rw [hj]
    have h1 : M (rg b) <<< (52 + j) = M (rg b) * 2 ^ j * 4503599627370496 := by
      rw [Nat.shiftLeft_eq, Nat.pow_add, Nat.mul_assoc, Nat.mul_comm (2 ^ 52)]
    rw [h1, Nat.mul_div_cancel _ (by decide), Nat.mul_mod_left]
    have := nearest_exact (sg b) (rg b) (j + 1) (by omega)
    rw [word_eq b hb] at this
    simp only [Bool.xor_false, Option.map_some, Format.write]
    have h2 : 2 * (M (rg b) * 2 ^ j) + (0 != 0 : Bool).toNat = M (rg b) * 2 ^ (j + 1) := by
      rw [Nat.pow_succ]
      simp
      rw [Nat.mul_left_comm, Nat.mul_comm 2 (2 ^ j)]
    rw [h2, show -1074 + (E (rg b) : Int) - -52 - ((52 + j : Nat) : Int) - 1 = -1074 + (E (rg b) : Int) - ((j + 1 : Nat) : Int) from by omega, this]

/-! whole numbers -/

theorem cut_even (s : Bool) (n c : Nat) (hc : c ≤ n.log2 + 2) :
    Toward.even.cut s n c = n / 2 ^ c + (if 2 ^ c < 2 * (n % 2 ^ c) ∨ (2 ^ c = 2 * (n % 2 ^ c) ∧ n / 2 ^ c % 2 = 1) then 1 else 0) := by
  unfold Toward.cut
  dsimp only
  rw [Nat.min_eq_left hc, Nat.shiftLeft_eq, Nat.one_mul]
  congr 1
  generalize 2 ^ c = g
  generalize n % g = r
  generalize n / g % 2 = b
  by_cases h1 : g < 2 * r
  · rw [if_pos (.inl h1), decide_eq_true h1]; rfl
  · by_cases h2 : g = 2 * r
    · by_cases h3 : b = 1
      · rw [if_pos (.inr ⟨h2, h3⟩)]
        simp [h2, h3]
      · rw [if_neg (by omega)]
        simp [h2, h3]
    · rw [if_neg (by omega)]
      simp [h1, h2]

theorem nearest_num (s : Bool) (m : Nat) (p : Int) : rnan (double.nearest s m p) = false := by
  have e3 : double.infRung = INF := by decide
  rw [rnan_iff]
  unfold Format.nearest
  split
  · rw [rg_word _ _ (by decide)]; decide
  · dsimp only
    rw [e3, rg_word _ _ (Nat.lt_of_le_of_lt (Nat.min_le_right _ _) (by decide))]
    exact decide_eq_false (Nat.not_lt.2 (Nat.min_le_right _ _))

/-- the rung of the number nearest to a whole one, whose highest bit is k -/
def wholeRung (n k : Nat) : Nat :=
  if k ≤ 52 then (k + 1022) * 4503599627370496 + n * 2 ^ (52 - k)
  else (k + 1022) * 4503599627370496 + (n / 2 ^ (k - 52) + (if 2 ^ (k - 52) < 2 * (n % 2 ^ (k - 52)) ∨ (2 ^ (k - 52) = 2 * (n % 2 ^ (k - 52)) ∧ n / 2 ^ (k - 52) % 2 = 1) then 1 else 0))

theorem whole_small {n k : Nat} (h2 : n < 2 ^ (k + 1)) (c : k ≤ 52) : n * 2 ^ (52 - k) < 9007199254740992 := by
  have : n * 2 ^ (52 - k) < 2 ^ (k + 1) * 2 ^ (52 - k) := Nat.mul_lt_mul_of_pos_right h2 (Nat.two_pow_pos _)
  rw [← Nat.pow_add, show k + 1 + (52 - k) = 53 from by omega] at this
  exact this

theorem whole_quot {n k : Nat} (h2 : n < 2 ^ (k + 1)) (c : 52 < k) : n / 2 ^ (k - 52) < 9007199254740992 := by
  apply Nat.div_lt_of_lt_mul
  rw [show (9007199254740992 : Nat) = 2 ^ 53 from rfl, ← Nat.pow_add, show k - 52 + 53 = k + 1 from by omega]
  exact h2

theorem nearest_whole (s : Bool) (n k : Nat) (h1 : 2 ^ k ≤ n) (h2 : n < 2 ^ (k + 1)) (hk : k ≤ 63) : double.nearest s n 0 = double.word s (wholeRung n k) := by
  have hl : n.log2 = k := log2_eq h1 h2
  have hn : n ≠ 0 := by have := Nat.two_pow_pos k; omega
  have e1 : double.fractionBits = 52 := rfl
  have e2 : double.binade = 4503599627370496 := by decide
  have e3 : double.infRung = 9218868437227405312 := by decide
  have e4 : double.leastPlace = -1074 := by decide
  unfold Format.nearest wholeRung
  rw [if_neg hn]
  dsimp only
  rw [e1, e2, e3, e4, hl]
  have m1 : max ((0 : Int) + (k : Nat) - (52 : Nat)) (-1074) = (k : Int) - 52 := by omega
  rw [m1]
  have m4 : ((k : Int) - 52 - -1074).toNat = k + 1022 := by omega
  rw [m4]
  by_cases c : k ≤ 52
  · have m2 : ((0 : Int) - ((k : Int) - 52)).toNat = 52 - k := by omega
    have m3 : ((k : Int) - 52 - 0).toNat = 0 := by omega
    rw [m2, m3, if_pos c, Nat.shiftLeft_eq]
    have hne : n * 2 ^ (52 - k) ≠ 0 := Nat.mul_ne_zero hn (by have := Nat.two_pow_pos (52 - k); omega)
    have := cut_exact .even s (n * 2 ^ (52 - k)) 0 hne
    rw [Nat.pow_zero, Nat.mul_one] at this
    rw [this, Nat.min_eq_left]
    have := whole_small h2 c
    omega
  · have m2 : ((0 : Int) - ((k : Int) - 52)).toNat = 0 := by omega
    have m3 : ((k : Int) - 52 - 0).toNat = k - 52 := by omega
    rw [m2, m3, if_neg c, Nat.shiftLeft_zero, cut_even _ _ _ (by omega), Nat.min_eq_left]
    have := whole_quot h2 (Nat.lt_of_not_le c)
    split <;> omega

theorem wholeRung_lt {n k : Nat} (h2 : n < 2 ^ (k + 1)) (hk : k ≤ 63) : wholeRung n k < 9218868437227405312 := by
  unfold wholeRung
  split
  · rename_i c; have := whole_small h2 c; omega
  · rename_i c; have := whole_quot h2 (Nat.lt_of_not_le c); split <;> omega

theorem cut_zero (s : Bool) (n d : Nat) : Toward.zero.cut s n d = n / 2 ^ d := by
  unfold Toward.cut
  dsimp only
  rw [Nat.shiftLeft_eq, Nat.one_mul]
  show n / 2 ^ min d (n.log2 + 2) + 0 = _
  rw [Nat.add_zero]
  by_cases h : d ≤ n.log2 + 2
  · rw [Nat.min_eq_left h]
  · rw [Nat.min_eq_right (by omega)]
    by_cases z : n = 0
    · subst z; simp
    · have hb := (log2_bounds z).2
      have h1 : 2 ^ (n.log2 + 1) ≤ 2 ^ (n.log2 + 2) := Nat.pow_le_pow_right (by decide) (by omega)
      have h2 : 2 ^ (n.log2 + 1) ≤ 2 ^ d := Nat.pow_le_pow_right (by decide) (by omega)
      rw [Nat.div_eq_of_lt (by omega), Nat.div_eq_of_lt (by omega)]

/-- the whole part of the number on a rung -/
def TI (r : Nat) : Nat := if 1074 ≤ E r then M r * 2 ^ (E r - 1074) else M r / 2 ^ (1074 - E r)

theorem toInt_num (b : Nat) (h : rg b < INF) : (double.read b).toInt .zero = some (if sg b then -(TI (rg b) : Int) else (TI (rg b) : Int)) := by
  rw [read_num b h]
  unfold Datum.toInt Datum.integral
  dsimp only
  rw [cut_zero, Nat.shiftLeft_eq]
  unfold signed TI
  by_cases c : 1074 ≤ E (rg b)
  · have e1 : (-1074 + (E (rg b) : Int)).toNat = E (rg b) - 1074 := by omega
    have e2 : (-(-1074 + (E (rg b) : Int))).toNat = 0 := by omega
    rw [e1, e2, if_pos c, Nat.pow_zero, Nat.div_one, Nat.shiftLeft_zero]
  · have e1 : (-1074 + (E (rg b) : Int)).toNat = 0 := by omega
    have e2 : (-(-1074 + (E (rg b) : Int))).toNat = 1074 - E (rg b) := by omega
    rw [e1, e2, if_neg c, Nat.pow_zero, Nat.mul_one, Nat.shiftLeft_zero]

theorem TI_lt {r : Nat} (h : r < 4890909195324358656) : TI r < 9223372036854775808 := by
  have hM := M_lt r
  have hE : E r ≤ 1084 := by unfold E; omega
  unfold TI
  split
  · rename_i c
    have h2 : 2 ^ (E r - 1074) ≤ 2 ^ 10 := Nat.pow_le_pow_right (by decide) (by omega)
    have h3 : M r * 2 ^ (E r - 1074) ≤ M r * 2 ^ 10 := Nat.mul_le_mul_left _ h2
    omega
  · have := Nat.div_le_self (M r) (2 ^ (1074 - E r))
    omega

theorem TI_edge : TI 4890909195324358656 = 9223372036854775808 := by decide +kernel

theorem whole_big {n k : Nat} (h1 : 2 ^ k ≤ n) (c : k ≤ 52) : 4503599627370496 ≤ n * 2 ^ (52 - k) := by
  have : 2 ^ k * 2 ^ (52 - k) ≤ n * 2 ^ (52 - k) := Nat.mul_le_mul_right _ h1
  rw [← Nat.pow_add, show k + (52 - k) = 52 from by omega] at this
  exact this

theorem TI_whole {n k : Nat} (h1 : 2 ^ k ≤ n) (h2 : n < 2 ^ (k + 1)) (c : k ≤ 52) : TI (wholeRung n k) = n := by
  have hs := whole_small h2 c
  have hb := whole_big h1 c
  have hr : wholeRung n k = (k + 1022) * 4503599627370496 + n * 2 ^ (52 - k) := by unfold wholeRung; rw [if_pos c]
  have hE : E (wholeRung n k) = k + 1022 := by rw [hr]; unfold E; omega
  have hM : M (wholeRung n k) = n * 2 ^ (52 - k) := by rw [hr]; unfold M; rw [if_neg (by omega)]; omega
  unfold TI
  rw [hE, hM]
  by_cases d : k = 52
  · subst d
    rw [if_pos (by omega)]
    simp
  · rw [if_neg (by omega), show 1074 - (k + 1022) = 52 - k from by omega]
    exact Nat.mul_div_cancel _ (Nat.two_pow_pos _)

end Go.Proofs.YtmmchhlfbhbigaaDoor

namespace Go.Proofs.YtmmchhlfbhbigaaDoor
set_option maxRecDepth 100000
open Go.RowKit

def ub (a : Int) : Nat := (IntKind.u64.wrap a).toNat

theorem wrap_u64_ub (a : Int) : IntKind.u64.wrap a = (ub a : Int) := by
  unfold ub; rw [IntKind.wrap_u64]; omega

def RBits (b : Nat) : Int := if rnan b then 9221120237041090560 else wrap64 (b : Int)

def RCanon (a : Int) : Int := RBits (ub a)

theorem nan_word (t : Nat) : rnan ((t % 2) * 2 ^ 63 + 0x7ff0000000000000 + 1 + (t / 2) % (2 ^ 52 - 1)) = true := by
  have h1 : (t / 2) % (2 ^ 52 - 1) < 2 ^ 52 - 1 := Nat.mod_lt _ (by decide)
  generalize (t / 2) % (2 ^ 52 - 1) = k at *
  have h2 : t % 2 < 2 := Nat.mod_lt _ (by decide)
  generalize t % 2 = s at *
  have hr : ∃ n f, Ieee.double.read (s * 2 ^ 63 + 0x7ff0000000000000 + 1 + k) = .nan n f := by
    unfold Ieee.Format.read
    have e1 : Ieee.double.signWeight = 2 ^ 63 := by decide
    have e2 : Ieee.double.binade = 2 ^ 52 := by decide
    have e3 : Ieee.double.infRung = 0x7ff0000000000000 := by decide
    rw [e1, e2, e3]
    dsimp only
    have e4 : (s * 2 ^ 63 + 0x7ff0000000000000 + 1 + k) % 2 ^ 63 = 0x7ff0000000000000 + 1 + k := by omega
    rw [e4, if_neg (by omega), if_neg (by omega), if_neg (by omega)]
    exact ⟨_, _, rfl⟩
  obtain ⟨n, f, h⟩ := hr
  unfold rnan Ieee.Format.order
  rw [h]
  rfl

theorem RBits_nan {nb : Nat} (h : rnan nb = true) : RBits nb = 9221120237041090560 := by unfold RBits; rw [if_pos h]

/-- a sum, difference, product, quotient: the operation's word in its one form; NaN where there is none -/
def ROf (o : Option Nat) : Int := match o with | some r => RBits r | none => 9221120237041090560

def RNeg (a : Int) : Int := RBits (Op.negFloat .f64 (ub a))

def ROfInt (n : Int) : Int := RBits (floatOfInt .f64 n)

def fcmp (x y : Nat) : Int := match Ieee.double.order x y with | some .lt => -1 | some .gt => 1 | _ => 0

def forder (x y : Nat) : Int := if rnan x then (if rnan y then 0 else 1) else if rnan y then -1 else fcmp x y

def ROrder (a b : Int) : Int := forder (ub a) (ub b)

def RToInt (a : Int) : Int × Int := match floatToIntVal .f64 (ub a) .i64 with | some n => (n, 0) | none => (0, 10)

def tbad (b : Nat) : Bool := rnan b || Ieee.double.order b 14114281232179134464 == some .lt || (Ieee.double.order b 4890909195324358656 == some .gt || Ieee.double.order b 4890909195324358656 == some .eq)

/-- the power of ten, as a word -/
def P10 (k : Nat) : Nat := floatOfInt .f64 (10 ^ k : Nat)

theorem p10_step : ∀ k, k < 15 → Ieee.double.mul (P10 k) 4621819117588971520 = some (P10 (k + 1)) := by decide +kernel

def dbad (m s : Int) : Bool := decide (m < 0) || decide (999999999999999 < m) || decide (s < 0) || decide (15 < s)

def ROfDecimal (m s : Int) : Int × Int := if dbad m s then (0, 11) else (ROf (Ieee.double.div (floatOfInt .f64 m) (P10 s.toNat)), 0)

theorem ub_lt (a : Int) : ub a < 18446744073709551616 := by unfold ub; rw [IntKind.wrap_u64]; omega

theorem ret_i {k : IntKind} {a b : Int} (h : a = b) : Ending.returned (.int k a) = .returned (.int k b) := by rw [h]

theorem ret_i2 {k l : IntKind} {a b c d : Int} (h : a = b) (g : c = d) : Ending.returned (.tuple #[.int k a, .int l c]) = .returned (.tuple #[.int k b, .int l d]) := by rw [h, g]

theorem ret_i3 {k l m : IntKind} {a b c d e f : Int} (h : a = b) (g : c = d) (i : e = f) : Ending.returned (.tuple #[.int k a, .int l c, .int m e]) = .returned (.tuple #[.int k b, .int l d, .int m f]) := by rw [h, g, i]

theorem and2047 (n : Nat) (h : n < 18446744073709551616) : bits .and .u64 (n : Int) 2047 = ((n % 2048 : Nat) : Int) := by
  have := bits_and_u64_nat n 2047 h (by decide)
  rw [show ((2047 : Nat) : Int) = 2047 from rfl] at this
  rw [this, show (2047 : Nat) = 2 ^ 11 - 1 from rfl, Nat.and_two_pow_sub_one_eq_mod]

theorem and52 (n : Nat) (h : n < 18446744073709551616) : bits .and .u64 (n : Int) 4503599627370495 = ((n % 4503599627370496 : Nat) : Int) := by
  have := bits_and_u64_nat n 4503599627370495 h (by decide)
  rw [show ((4503599627370495 : Nat) : Int) = 4503599627370495 from rfl] at this
  rw [this, show (4503599627370495 : Nat) = 2 ^ 52 - 1 from rfl, Nat.and_two_pow_sub_one_eq_mod]

theorem ub_parts (a : Int) : rg (ub a) = ub a / 4503599627370496 % 2048 * 4503599627370496 + ub a % 4503599627370496 := by
  unfold rg; have := ub_lt a; omega

theorem ub_sign (a : Int) : sg (ub a) = decide (ub a / 9223372036854775808 = 1) := by
  unfold sg; have := ub_lt a
  rw [Nat.mod_eq_of_lt (by omega)]; rfl

def PCanon (a : Int) : Int := if rnan (ub a) then 9221120237041090560 else a

/-- a number's place in the document's order -/
def PPlace (a : Int) : Int := if rnan (ub a) then 9223372036854775807 else pl (ub a)

def POrder (a b : Int) : Int := if PPlace a < PPlace b then -1 else if PPlace b < PPlace a then 1 else 0

theorem ub_wrap (b : Nat) (h : b < 18446744073709551616) : ub (wrap64 (b : Int)) = b := by
  unfold ub wrap64; rw [IntKind.wrap_u64]; omega

theorem nan_word_lt (t : Nat) : ((t % 2) * 2 ^ 63 + 0x7ff0000000000000 + 1 + (t / 2) % (2 ^ 52 - 1)) < 18446744073709551616 := by
  have h1 : (t / 2) % (2 ^ 52 - 1) < 2 ^ 52 - 1 := Nat.mod_lt _ (by decide)
  generalize (t / 2) % (2 ^ 52 - 1) = k at *
  have h2 : t % 2 < 2 := Nat.mod_lt _ (by decide)
  omega

def PNeg (a : Int) : Int := if rnan (ub a) then 9221120237041090560 else bits .xor .i64 a (-9223372036854775808)

def InI (a : Int) : Prop := -9223372036854775808 ≤ a ∧ a ≤ 9223372036854775807

theorem wrap_ub {a : Int} (h : InI a) : wrap64 (ub a : Int) = a := by
  obtain ⟨h1, h2⟩ := h
  unfold ub wrap64; rw [IntKind.wrap_u64]; omega

theorem wrap_in (n : Int) : InI (wrap64 n) := by unfold InI wrap64; omega

theorem canon_eq {a : Int} (h : InI a) : RCanon a = PCanon a := by
  unfold RCanon PCanon RBits; rw [wrap_ub h]

theorem xor_min (a : Int) : bits .xor .i64 a (-9223372036854775808) = wrap64 (ng (ub a) : Int) := by
  unfold bits
  dsimp only
  rw [IntKind.wrap_i64, BitVec.toNat_xor]
  have h1 : (BitVec.ofInt IntKind.i64.bits a).toNat = ub a := by
    rw [BitVec.toNat_ofInt]; unfold ub; rw [IntKind.wrap_u64]; rfl
  have h2 : (BitVec.ofInt IntKind.i64.bits (-9223372036854775808)).toNat = 2 ^ 63 := by decide
  rw [h1, h2]
  unfold wrap64 ng
  rfl

theorem nan_ub : ub 9221120237041090560 = 9221120237041090560 := by decide

theorem nan_rnan : rnan 9221120237041090560 = true := by decide +kernel

theorem rnan_ng (b : Nat) (h : b < 18446744073709551616) : rnan (ng b) = rnan b := by
  rw [rnan_iff, rnan_iff, rg_ng b h]

theorem neg_eq (a : Int) : RNeg a = PNeg a := by
  unfold RNeg PNeg RBits
  rw [xor_min]
  have : Op.negFloat .f64 (ub a) = ng (ub a) := rfl
  rw [this, rnan_ng _ (ub_lt a)]

theorem pl_bound (b : Nat) (h : rnan b = false) : -9218868437227405312 ≤ pl b ∧ pl b ≤ 9218868437227405312 := by
  have := rnan_false h
  unfold pl
  unfold INF at this
  split <;> omega

theorem order_eq (a b : Int) : ROrder a b = POrder a b := by
  unfold ROrder POrder forder PPlace
  rcases ha : rnan (ub a) with _ | _ <;> rcases hb : rnan (ub b) with _ | _
  · have h1 := order_pl (ub a) (ub b) (rnan_false ha) (rnan_false hb)
    simp only [Bool.false_eq_true, if_false]
    unfold fcmp
    rw [h1]
    by_cases c : pl (ub a) < pl (ub b)
    · rw [cmp_lt c, if_pos c]
    · by_cases d : pl (ub b) < pl (ub a)
      · rw [cmp_gt d, if_neg c, if_pos d]
      · rw [cmp_eq (by omega), if_neg c, if_neg d]
  · have := pl_bound _ ha
    simp
    omega
  · have := pl_bound _ hb
    simp
    omega
  · simp

theorem porder_neg (a b : Int) : POrder a b = -POrder b a := by
  unfold POrder; repeat' split
  all_goals omega

theorem porder_canon (a : Int) : POrder a (PCanon a) = 0 := by
  have : PPlace (PCanon a) = PPlace a := by
    unfold PPlace PCanon
    rcases h : rnan (ub a) with _ | _
    · simp only [Bool.false_eq_true, if_false, h]
    · rw [if_pos rfl, nan_ub, nan_rnan, if_pos rfl, if_pos rfl]
  unfold POrder
  rw [this, if_neg (by omega), if_neg (by omega)]

theorem porder_vals (a b : Int) : POrder a b = -1 ∨ POrder a b = 0 ∨ POrder a b = 1 := by
  unfold POrder; repeat' split
  all_goals simp

theorem pcanon_in {a : Int} (h : InI a) : InI (PCanon a) := by
  unfold PCanon; split
  · unfold InI; omega
  · exact h

/-- a number in its one form -/
def Cn (a : Int) : Prop := InI a ∧ (rnan (ub a) = true → a = 9221120237041090560)

theorem cn_canon {a : Int} (h : InI a) : Cn (RCanon a) := by
  rw [canon_eq h]
  refine ⟨pcanon_in h, ?_⟩
  unfold PCanon
  rcases hn : rnan (ub a) with _ | _
  · simp [hn]
  · simp

theorem rbits_ub {a : Int} (h : InI a) (hn : rnan (ub a) = false) : RBits (ub a) = a := by
  unfold RBits; rw [hn, wrap_ub h]; rfl

theorem sum_nan_l (n : Bool) (f : Nat) (d : Ieee.Datum) : (Ieee.Datum.nan n f).sum d = none := by cases d <;> rfl

theorem sum_nan_r (n : Bool) (f : Nat) (d : Ieee.Datum) : d.sum (Ieee.Datum.nan n f) = none := by cases d <;> rfl

theorem prod_nan_l (n : Bool) (f : Nat) (d : Ieee.Datum) : (Ieee.Datum.nan n f).product d = none := by cases d <;> rfl

theorem prod_nan_r (n : Bool) (f : Nat) (d : Ieee.Datum) : d.product (Ieee.Datum.nan n f) = none := by cases d <;> rfl

theorem quot_nan_l (n : Bool) (f k : Nat) (d : Ieee.Datum) : Ieee.Datum.quotient k (Ieee.Datum.nan n f) d = none := by cases d <;> rfl

theorem quot_nan_r (n : Bool) (f k : Nat) (d : Ieee.Datum) : Ieee.Datum.quotient k d (Ieee.Datum.nan n f) = none := by cases d <;> rfl

theorem opp_nan (n : Bool) (f : Nat) : (Ieee.Datum.nan n f).opposite = .nan (!n) f := rfl

theorem op_nan (x y : Nat) (h : rnan x = true ∨ rnan y = true) : Ieee.double.add x y = none ∧ Ieee.double.sub x y = none ∧ Ieee.double.mul x y = none ∧ Ieee.double.div x y = none := by
  unfold Ieee.Format.add Ieee.Format.sub Ieee.Format.mul Ieee.Format.div
  rcases h with h | h
  · have h' : INF < rg x := by rw [rnan_iff] at h; exact of_decide_eq_true h
    obtain ⟨n, f, e⟩ := read_nan x h'
    rw [e, sum_nan_l, sum_nan_l, prod_nan_l, quot_nan_l]
    exact ⟨Option.map_none _, Option.map_none _, Option.map_none _, Option.map_none _⟩
  · have h' : INF < rg y := by rw [rnan_iff] at h; exact of_decide_eq_true h
    obtain ⟨n, f, e⟩ := read_nan y h'
    rw [e, opp_nan, sum_nan_r, sum_nan_r, prod_nan_r, quot_nan_r]
    exact ⟨Option.map_none _, Option.map_none _, Option.map_none _, Option.map_none _⟩

theorem pneg_num {a : Int} (hn : rnan (ub a) = false) : PNeg a = wrap64 (ng (ub a) : Int) := by
  unfold PNeg; rw [hn, xor_min, if_neg (by decide)]

theorem pneg_nan {a : Int} (ha : Cn a) (hn : rnan (ub a) = true) : PNeg a = a := by
  unfold PNeg; rw [hn, if_pos rfl]; exact (ha.2 hn).symm

theorem ub_neg {a : Int} (hn : rnan (ub a) = false) : ub (RNeg a) = ng (ub a) := by
  rw [neg_eq, pneg_num hn]
  exact ub_wrap _ (ng_lt _ (ub_lt a))

theorem law_sub {b : Int} (a : Int) (hb : Cn b) : ROf (Ieee.double.sub (ub a) (ub b)) = ROf (Ieee.double.add (ub a) (ub (RNeg b))) := by
  rcases hn : rnan (ub b) with _ | _
  · rw [ub_neg hn, sub_add _ _ (ub_lt b)]
  · have h2 : RNeg b = b := by rw [neg_eq, pneg_nan hb hn]
    rw [h2, (op_nan _ _ (.inr hn)).1, (op_nan _ _ (.inr hn)).2.1]

theorem law_neg {a : Int} (ha : Cn a) : RNeg (RNeg a) = a := by
  rcases hn : rnan (ub a) with _ | _
  · have h1 := ub_neg hn
    have h2 : rnan (ub (RNeg a)) = false := by rw [h1, rnan_ng _ (ub_lt a), hn]
    rw [neg_eq (RNeg a), pneg_num h2, h1, ng_ng]
    exact wrap_ub ha.1
  · have h2 : RNeg a = a := by rw [neg_eq, pneg_nan ha hn]
    rw [h2, h2]

theorem law_mul {a : Int} (ha : Cn a) : ROf (Ieee.double.mul (ub a) (ub 4607182418800017408)) = a := by
  have ho : ub 4607182418800017408 = one := by decide
  rw [ho]
  rcases hn : rnan (ub a) with _ | _
  · rw [mul_one' _ (ub_lt a) (rnan_false hn)]
    exact rbits_ub ha.1 hn
  · rw [(op_nan _ _ (.inl hn)).2.2.1, ha.2 hn]; rfl

theorem law_div {a : Int} (ha : Cn a) : ROf (Ieee.double.div (ub a) (ub 4607182418800017408)) = a := by
  have ho : ub 4607182418800017408 = one := by decide
  rw [ho]
  rcases hn : rnan (ub a) with _ | _
  · rw [div_one' _ (ub_lt a) (rnan_false hn)]
    exact rbits_ub ha.1 hn
  · rw [(op_nan _ _ (.inl hn)).2.2.2, ha.2 hn]; rfl

theorem run_float_nan {P : Program} (op : BinOp) (hop : op = .add ∨ op = .sub ∨ op = .mul ∨ op = .quo) (t : TypeId) (x y : Nat) (h : floatBits op .f64 x y = none) (w : World) :
    ∃ nb, rnan nb = true ∧ (binOp op t (.float .f64 x) (.float .f64 y)).run P w = .ok (.float .f64 nb) w.drew := by
  refine ⟨_, nan_word (w.tape w.drawn (.nanBits .f64 x y)), ?_⟩
  unfold floatBits at h
  rcases hop with rfl | rfl | rfl | rfl <;> simp only at h <;> simp [binOp, Op.floatArith, h, Question.forced, Question.cut]

theorem run_float_nan_lt {P : Program} (op : BinOp) (hop : op = .add ∨ op = .sub ∨ op = .mul ∨ op = .quo) (t : TypeId) (x y : Nat) (h : floatBits op .f64 x y = none) (w : World) :
    ∃ nb, rnan nb = true ∧ nb < 18446744073709551616 ∧ (binOp op t (.float .f64 x) (.float .f64 y)).run P w = .ok (.float .f64 nb) w.drew := by
  refine ⟨_, nan_word (w.tape w.drawn (.nanBits .f64 x y)), nan_word_lt _, ?_⟩
  unfold floatBits at h
  rcases hop with rfl | rfl | rfl | rfl <;> simp only at h <;> simp [binOp, Op.floatArith, h, Question.forced, Question.cut]

end Go.Proofs.YtmmchhlfbhbigaaDoor

namespace Go.Proofs.YtmmchhlfbhbigaaDoor
set_option maxRecDepth 100000
open Go.RowKit Go.Joins Go.ChangeShapes Go.WideShapes
set_option linter.unusedVariables false

/-- a row of bytes in memory -/
structure IsB (w : World) (b off : Nat) (l : List Nat) : Prop where
  hb : 0 < l.length → b < w.heap.size
  c : ∀ (i x : Nat), l[i]? = some x → w.cell? ⟨b, off + i, none⟩ = some (.int .u8 (x : Int))
  lt : ∀ x ∈ l, x < 256
theorem IsB.below {w w' : World} {b off : Nat} {l : List Nat} (h : IsB w b off l) (hw : Below w.heap.size w w') : IsB w' b off l := by
  obtain ⟨hc, _⟩ := bcell hw
  refine ⟨fun hl => Nat.lt_of_lt_of_le (h.hb hl) hw.size, fun i x hx => ?_, h.lt⟩
  have hl : 0 < l.length := by have := (List.getElem?_eq_some_iff.1 hx).1; omega
  rw [hc _ _ (h.hb hl)]
  exact h.c i x hx
theorem OwB.isB {w : World} {base : Nat} {v : Value} {l : List Nat} (h : OwB w base v l) (hl : ∀ x ∈ l, x < 256) : ∃ g cap, v = .slice (some ⟨g, 0, none⟩) l.length cap ∧ IsB w g 0 l ∧ base ≤ g := by
  obtain ⟨g, cap, e, hb, hg, hc⟩ := h.form
  refine ⟨g, cap, e, ⟨fun _ => hg, fun i x hx => ?_, hl⟩, hb⟩
  rw [Nat.zero_add]
  refine hc i _ ?_
  simp only [bcells, List.getElem?_map, hx, Option.map_some]
/-- a row that has a byte shows its address -/
theorem IsB.drop {w : World} {b off : Nat} {l : List Nat} (h : IsB w b off l) (k : Nat) : IsB w b (off + k) (l.drop k) :=
  ⟨fun hl => h.hb (by rw [List.length_drop] at hl; omega), fun i x hx => by rw [List.getElem?_drop] at hx; rw [Nat.add_assoc]; exact h.c _ _ hx, fun x hx => h.lt x (List.mem_of_mem_drop hx)⟩
theorem IsB.take {w : World} {b off : Nat} {l : List Nat} (h : IsB w b off l) (k : Nat) : IsB w b off (l.take k) :=
  ⟨fun hl => h.hb (by rw [List.length_take] at hl; omega), fun i x hx => h.c i x (by rw [List.getElem?_take] at hx; split at hx; exact hx; cases hx), fun x hx => h.lt x (List.mem_of_mem_take hx)⟩

set_option maxRecDepth 100000 in
/-- a piece of a row of bytes -/
theorem slice_b (b off m cap i n : Nat) (hn : 0 < n) (h : i + n ≤ cap) (lo hi : Int) (hl : lo = (i : Int)) (hh : hi = (i : Int) + (n : Int)) (w : World) :
    (Instr.slice 30 (.slice (some ⟨b, off, none⟩) m cap) (some (.int .i64 lo)) (some (.int .i64 hi)) none).run Tryd.prog w = .ok (.slice (some ⟨b, off + i, none⟩) n (cap - i)) w := by
  subst hl hh
  have hs : (sizeOf (Tryd.prog.elem 30)).run Tryd.prog w = .ok 1 w := by first | rfl | kernel_rfl
  rw [run_slice_lh w 30 (some ⟨b, off, none⟩) m cap (by kernel_rfl) .i64 .i64 (i : Int) ((i : Int) + (n : Int)) (by omega) (by omega) (by omega), hs]
  have e1 : ((i : Int)).toNat = i := by omega
  have e2 : ((i : Int) + (n : Int)).toNat = i + n := by omega
  have ea : (⟨b, off, none⟩ : Addr).add i = ⟨b, off + i, none⟩ := by unfold Addr.add; split <;> simp_all
  simp only [Result.andThen, sliced, e1, e2, Nat.mul_one]
  rw [if_neg (by omega), Option.map_some, ea]
  congr 2
  omega

/-- which row of bytes comes first -/
def ordB : List Nat → List Nat → Int
  | [], [] => 0
  | [], _ :: _ => -1
  | _ :: _, [] => 1
  | a :: l, b :: r => if a < b then -1 else if b < a then 1 else ordB l r
theorem ordB_step {l r : List Nat} {k x y : Nat} (hx : l[k]? = some x) (hy : r[k]? = some y) : ordB (l.drop k) (r.drop k) = if x < y then -1 else if y < x then 1 else ordB (l.drop (k + 1)) (r.drop (k + 1)) := by
  obtain ⟨h1, e1⟩ := List.getElem?_eq_some_iff.1 hx
  obtain ⟨h2, e2⟩ := List.getElem?_eq_some_iff.1 hy
  rw [List.drop_eq_getElem_cons h1, List.drop_eq_getElem_cons h2, e1, e2]
  rfl
theorem ordB_l {l r : List Nat} {k : Nat} (h : k = l.length) (h2 : k ≤ r.length) : ordB (l.drop k) (r.drop k) = if l.length < r.length then -1 else 0 := by
  subst h
  rw [List.drop_length]
  by_cases c : l.length < r.length
  · rw [List.drop_eq_getElem_cons c, if_pos c]; rfl
  · rw [List.drop_eq_nil_of_le (by omega), if_neg c]; rfl
theorem ordB_r {l r : List Nat} {k : Nat} (h : k = r.length) (h2 : k < l.length) : ordB (l.drop k) (r.drop k) = 1 := by
  subst h
  rw [List.drop_length, List.drop_eq_getElem_cons h2]
  rfl

/-- does a row begin with another one? -/
theorem begins_take {l r : List Nat} (h : r.length ≤ l.length) : l.take r.length = r ↔ ∀ k, k < r.length → l[k]? = r[k]? := by
  constructor
  · intro e k hk
    rw [← e, List.getElem?_take, if_pos hk]
  · intro e
    apply List.ext_getElem?
    intro k
    rw [List.getElem?_take]
    by_cases c : k < r.length
    · rw [if_pos c, e k c]
    · rw [if_neg c, List.getElem?_eq_none (by omega)]

end Go.Proofs.YtmmchhlfbhbigaaDoor

namespace Go.Proofs.YtmmchhlfbhbigaaDoor
set_option maxRecDepth 100000
open Go.RowKit Go.Joins Go.ChangeShapes Go.WideShapes
set_option linter.unusedVariables false

/-- a set of blocks -/
abbrev Bl := Nat → Prop
/-- from w to w' only the blocks of F, and new ones, have turned -/
structure Frm (F : Bl) (w w' : World) : Prop where
  os : w'.os = w.os
  tape : w'.tape = w.tape
  output : w'.output = w.output
  size : w.heap.size ≤ w'.heap.size
  block : ∀ k, k < w.heap.size → ¬ F k → w'.heap[k]? = w.heap[k]?
/-- F' has nothing of the old but F's -/
def New (w : World) (F F' : Bl) : Prop := ∀ k, F' k → F k ∨ w.heap.size ≤ k
theorem New.refl (w : World) (F : Bl) : New w F F := fun _ h => .inl h
theorem New.trans {w w1 : World} {F F1 F2 : Bl} (h : New w F F1) (h2 : New w1 F1 F2) (hs : w.heap.size ≤ w1.heap.size) : New w F F2 := fun k hk => by
  rcases h2 k hk with g | g
  · exact h k g
  · exact .inr (Nat.le_trans hs g)
theorem Frm.refl (F : Bl) (w : World) : Frm F w w := ⟨rfl, rfl, rfl, Nat.le_refl _, fun _ _ _ => rfl⟩
theorem Frm.trans {F F1 : Bl} {w w1 w2 : World} (h : Frm F w w1) (h2 : Frm F1 w1 w2) (hn : New w F F1) : Frm F w w2 :=
  ⟨h2.os.trans h.os, h2.tape.trans h.tape, h2.output.trans h.output, Nat.le_trans h.size h2.size, fun k hk hf => (h2.block k (Nat.lt_of_lt_of_le hk h.size) (fun hc => by
    rcases hn k hc with g | g
    · exact hf g
    · omega)).trans (h.block k hk hf)⟩
theorem Frm.mono {F F1 : Bl} {w w1 : World} (h : Frm F w w1) (hs : ∀ k, F k → F1 k) : Frm F1 w w1 := ⟨h.os, h.tape, h.output, h.size, fun k hk hf => h.block k hk (fun g => hf (hs k g))⟩
theorem Frm.of_below {F : Bl} {w w1 : World} (h : Below w.heap.size w w1) : Frm F w w1 := ⟨h.os, h.tape, h.output, h.size, fun k hk _ => h.block k hk⟩
theorem Frm.below {F : Bl} {w w1 : World} {B : Nat} (h : Frm F w w1) (hF : ∀ k, F k → B ≤ k) (hB : B ≤ w.heap.size) : Below B w w1 :=
  ⟨h.os, h.tape, h.output, h.size, fun k hk => h.block k (Nat.lt_of_lt_of_le hk hB) (fun g => by have := hF k g; omega)⟩
theorem Frm.nothing {w w1 : World} (h : Frm (fun _ => False) w w1) : Below w.heap.size w w1 := h.below (fun _ h => h.elim) (Nat.le_refl _)
theorem Frm.drew {F : Bl} {w w1 : World} (h : Frm F w w1) : Frm F w w1.drew := ⟨h.os, h.tape, h.output, h.size, h.block⟩
theorem Frm.alloc {F : Bl} {w w1 : World} (h : Frm F w w1) (o : Obj) : Frm F w (w1.alloc o) := h.trans (Frm.of_below ((Below.refl _ _).alloc (Nat.le_refl _) _)) (New.refl _ _)
theorem Frm.set1 {F : Bl} (w : World) {g : Nat} (hg : F g) (o : Nat) (u : Value) : Frm F w (w.setCell ⟨g, o, none⟩ u) :=
  ⟨rfl, rfl, rfl, by simp [World.setCell], fun k _ hf => heap_setCell_other w ⟨g, o, none⟩ k u (fun e => hf (by simp at e; subst e; exact hg))⟩
theorem Frm.setCell {F : Bl} {w w1 : World} (h : Frm F w w1) {g : Nat} (hg : F g ∨ w.heap.size ≤ g) (o : Nat) (u : Value) : Frm F w (w1.setCell ⟨g, o, none⟩ u) :=
  h.trans (F1 := fun k => k = g) (Frm.set1 w1 (F := fun k => k = g) rfl o u) (fun k hk => by subst hk; exact hg)
theorem Frm.grown {F : Bl} {w w1 w2 : World} {row : Option Nat} (h : Frm F w w1) (hg : w1.grownBy w2 row) (hr : ∀ k, row = some k → F k ∨ w.heap.size ≤ k) : Frm F w w2 :=
  h.trans (F1 := fun k => row = some k) ⟨hg.os, hg.tape, hg.output, hg.size, fun k hk hf => hg.block k hk (fun e => hf e.symm)⟩ hr
theorem Frm.step {F : Bl} {w w1 w2 : World} (h : Frm F w w1) (hb : Below w1.heap.size w1 w2) : Frm F w w2 := h.trans (Frm.of_below (F := F) hb) (New.refl _ _)
theorem Frm.heap {F : Bl} {w w1 : World} (h : Frm F w w1) {g : Nat} (hg : g < w.heap.size) (hf : ¬ F g) : w1.heap[g]? = w.heap[g]? := h.block g hg hf
theorem Frm.cell {F : Bl} {w w1 : World} (h : Frm F w w1) {g : Nat} (hg : g < w.heap.size) (hf : ¬ F g) (o : Nat) : w1.cell? ⟨g, o, none⟩ = w.cell? ⟨g, o, none⟩ := World.cell?_of_block (a := ⟨g, o, none⟩) (h.block g hg hf)
theorem Frm.frozen {F : Bl} {w w1 : World} (h : Frm F w w1) {g : Nat} (hg : g < w.heap.size) (hf : ¬ F g) (o : Nat) : w1.frozen? ⟨g, o, none⟩ = w.frozen? ⟨g, o, none⟩ := World.frozen?_of_block (a := ⟨g, o, none⟩) (h.block g hg hf)
theorem Frm.isB {F : Bl} {w w1 : World} (h : Frm F w w1) {b off : Nat} {l : List Nat} (hb : IsB w b off l) (hf : 0 < l.length → ¬ F b) : IsB w1 b off l := by
  refine ⟨fun hl => Nat.lt_of_lt_of_le (hb.hb hl) h.size, fun i x hx => ?_, hb.lt⟩
  have hl : 0 < l.length := by have := (List.getElem?_eq_some_iff.1 hx).1; omega
  rw [h.cell (hb.hb hl) (hf hl)]
  exact hb.c i x hx
theorem Frm.ownsRow {F : Bl} {w w1 : World} (h : Frm F w w1) {base : Nat} {e : TypeId} {size : Nat} {v : Value} {n : Nat} {xs : List Value} (ho : w.ownsRow base e size v n xs) (hf : ∀ k, v.ownBlock = some k → ¬ F k) : w1.ownsRow base e size v n xs := by
  refine ⟨ho.1, ?_⟩
  rcases ho.2 with hn | ⟨g, cap, cur, rfl, hb, hg, rest⟩
  · exact .inl hn
  · exact .inr ⟨g, cap, cur, rfl, hb, (h.block g (Array.getElem?_eq_some_iff.1 hg).1 (hf g rfl)).trans hg, rest⟩

end Go.Proofs.YtmmchhlfbhbigaaDoor

namespace Go.Proofs.YtmmchhlfbhbigaaDoor
set_option maxRecDepth 100000
open Go.RowKit Go.Joins Go.ChangeShapes Go.WideShapes
open Go.MapKept
set_option linter.unusedVariables false
set_option linter.unusedSimpArgs false

/-- block b is a map: under key k stands f k; n keys -/
def IMap {K : Type} (d : TypeDesc) (enc : K → Value) (w : World) (b : Nat) (f : K → Option Value) (n : Nat) : Prop :=
  ∃ es clock, w.heap[b]? = some (.map es clock) ∧ Stamped es clock ∧ (∀ x ∈ es.toList, ∃ k, x.key = enc k) ∧ (∀ k v, f k = some v ↔ ∃ e ∈ es.toList, e.key = enc k ∧ e.val = v) ∧ es.size = n
theorem IMap.lt {K : Type} {d : TypeDesc} {enc : K → Value} {w : World} {b n : Nat} {f : K → Option Value} (h : IMap d enc w b f n) : b < w.heap.size := by
  obtain ⟨es, clock, h1, -⟩ := h
  exact (Array.getElem?_eq_some_iff.1 h1).1
theorem IMap.heap {K : Type} {d : TypeDesc} {enc : K → Value} {w w1 : World} {b n : Nat} {f : K → Option Value} (h : IMap d enc w b f n) (hh : w1.heap[b]? = w.heap[b]?) : IMap d enc w1 b f n := by
  obtain ⟨es, clock, h1, h2⟩ := h
  exact ⟨es, clock, hh.trans h1, h2⟩
theorem IMap.step {K : Type} {d : TypeDesc} {enc : K → Value} {w w1 : World} {b n : Nat} {f : K → Option Value} {F : Bl} (h : IMap d enc w b f n) (hf : Frm F w w1) (hb : ¬ F b) : IMap d enc w1 b f n :=
  h.heap (hf.heap h.lt hb)
theorem IMap.below {K : Type} {d : TypeDesc} {enc : K → Value} {w w1 : World} {b n : Nat} {f : K → Option Value} (h : IMap d enc w b f n) (hb : Below w.heap.size w w1) : IMap d enc w1 b f n :=
  h.heap (hb.block _ h.lt)
theorem imap_made {K : Type} (d : TypeDesc) (enc : K → Value) (w : World) (n : Nat) (hn : w.heap.size = n) : IMap d enc (w.alloc (.map #[] 0)) n (fun _ => none) 0 := by
  subst hn
  exact ⟨#[], 0, heap_alloc_new w _, stamped_empty 0, by simp, by simp, rfl⟩
theorem nodup_keys {es : Array MapEntry} {clock : Nat} (h : Stamped es clock) {i j : Nat} {a b : MapEntry} (ha : es.toList[i]? = some a) (hb : es.toList[j]? = some b) (hk : a.key = b.key) : i = j := by
  obtain ⟨-, -, h3⟩ := h
  have e1 : (es.toList.map (·.key))[i]? = some a.key := by rw [List.getElem?_map, ha]; rfl
  have e2 : (es.toList.map (·.key))[j]? = some a.key := by rw [List.getElem?_map, hb, hk]; rfl
  have := (List.getElem?_inj (List.getElem?_eq_some_iff.1 e1).1 h3).1 (e1.trans e2.symm)
  exact this
section
variable {K : Type} {d : TypeDesc} {enc : K → Value} {w : World} {b n : Nat} {f : K → Option Value} {P : Program}
theorem IMap.uniq {es : Array MapEntry} {clock : Nat} (h : Stamped es clock) {e1 e2 : MapEntry} (h1 : e1 ∈ es.toList) (h2 : e2 ∈ es.toList) (hk : e1.key = e2.key) : e1 = e2 := by
  obtain ⟨i, hi⟩ := List.getElem?_of_mem h1
  obtain ⟨j, hj⟩ := List.getElem?_of_mem h2
  have := nodup_keys h hi hj hk
  subst this
  rw [hi] at hj
  injection hj
/-- m[k] -/
theorem IMap.look (h : IMap d enc w b f n) {t kt et : TypeId} (ht : P.underlying t = some (.map kt et)) (hd : P.underlying kt = some d) (hK : ∀ k, IsKey d (enc k)) {z : Value} (hz : (zeroValue et).run P w = .ok z w) (k : K) (c : Bool) :
    (Instr.lookup t (.map (some b)) (enc k) c).run P w = .ok (if c then .tuple #[(f k).getD z, .bool (f k).isSome] else (f k).getD z) w := by
  obtain ⟨es, clock, h1, h2, h3, h4, -⟩ := h
  have hks : ∀ x ∈ es.toList, IsKey d x.key := fun x hx => by obtain ⟨k, e⟩ := h3 x hx; rw [e]; exact hK k
  rcases findNow_spec (hK k) es.toList 0 hks with ⟨q1, q2⟩ | ⟨j, e, q1, q2, q3⟩
  · have hf : f k = none := by
      cases hv : f k with
      | none => rfl
      | some v => obtain ⟨e, he, hk, -⟩ := (h4 k v).1 hv; exact absurd hk (q2 e he)
    simp [Instr.lookup, run_underlying ht, Go.MapKept.run_getObj_map h1, Go.MapKept.run_checkKey hd (hK k), Go.MapKept.run_findKey hd q1, hz, hf, Result.andThen]
  · have hf : f k = some e.val := (h4 k e.val).2 ⟨e, List.mem_of_getElem? q2, q3, rfl⟩
    simp [Instr.lookup, run_underlying ht, Go.MapKept.run_getObj_map h1, Go.MapKept.run_checkKey hd (hK k), Go.MapKept.run_findKey hd q1, hf, Result.andThen]
/-- m[k] = v -/
theorem IMap.put [DecidableEq K] (h : IMap d enc w b f n) {t kt et : TypeId} (ht : P.underlying t = some (.map kt et)) (hd : P.underlying kt = some d) (hK : ∀ k, IsKey d (enc k)) (hinj : ∀ k k', enc k = enc k' → k = k') (k : K) (v : Value) :
    ∃ w', (Instr.mapUpdate t (.map (some b)) (enc k) v).run P w = .ok () w' ∧ IMap d enc w' b (fun k' => if k' = k then some v else f k') (if (f k).isSome then n else n + 1) ∧ w.grownBy w' (some b) ∧ w'.heap.size = w.heap.size := by
  obtain ⟨es, clock, h1, h2, h3, h4, h5⟩ := h
  have hks : ∀ x ∈ es.toList, IsKey d x.key := fun x hx => by obtain ⟨k, e⟩ := h3 x hx; rw [e]; exact hK k
  have hgr : ∀ o : Obj, w.grownBy { w with heap := w.heap.setIfInBounds b o } (some b) := fun o =>
    ⟨rfl, rfl, rfl, by simp, fun k' _ hne => (heap_set h1).2 k' (fun e => hne (by rw [e]))⟩
  rcases findNow_spec (hK k) es.toList 0 hks with ⟨q1, q2⟩ | ⟨j, e, q1, q2, q3⟩
  · have hf : f k = none := by
      cases hv : f k with
      | none => rfl
      | some v => obtain ⟨e, he, hk, -⟩ := (h4 k v).1 hv; exact absurd hk (q2 e he)
    refine ⟨{ w with heap := w.heap.setIfInBounds b (.map (es.push { key := enc k, val := v, born := clock }) (clock + 1)) }, ?_, ?_, hgr _, by simp⟩
    · simp [Instr.mapUpdate, run_underlying ht, Go.MapKept.run_getObj_map h1, Go.MapKept.run_checkKey hd (hK k), Go.MapKept.run_findKey hd q1, Go.MapKept.run_setObj_map _ h1, Result.andThen]
    · refine ⟨_, _, (heap_set h1).1, stamped_push h2 q2, ?_, fun k' v' => ?_, by simp [hf, h5]⟩
      · intro x hx
        simp only [Array.toList_push, List.mem_append, List.mem_singleton] at hx
        rcases hx with hx | rfl
        · exact h3 x hx
        · exact ⟨k, rfl⟩
      · simp only [Array.toList_push, List.mem_append, List.mem_singleton]
        by_cases c : k' = k
        · subst c
          rw [if_pos rfl]
          constructor
          · intro e; injection e with e; exact ⟨_, .inr rfl, rfl, e⟩
          · rintro ⟨e, he | rfl, g1, g2⟩
            · exact absurd g1 (q2 e he)
            · rw [← g2]
        · rw [if_neg c, h4]
          constructor
          · rintro ⟨e, he, g⟩; exact ⟨e, .inl he, g⟩
          · rintro ⟨e, he | rfl, g1, g2⟩
            · exact ⟨e, he, g1, g2⟩
            · exact absurd (hinj _ _ g1).symm c
  · have hf : f k = some e.val := (h4 k e.val).2 ⟨e, List.mem_of_getElem? q2, q3, rfl⟩
    have hj : es[j]? = some e := by simpa using q2
    have hjl : j < es.size := (Array.getElem?_eq_some_iff.1 hj).1
    refine ⟨{ w with heap := w.heap.setIfInBounds b (.map (es.modify j fun e => { e with key := enc k, val := v }) clock) }, ?_, ?_, hgr _, by simp⟩
    · simp [Instr.mapUpdate, run_underlying ht, Go.MapKept.run_getObj_map h1, Go.MapKept.run_checkKey hd (hK k), Go.MapKept.run_findKey hd q1, hj, q3, Go.MapKept.run_keyThatStays (hK k), Go.MapKept.run_setObj_map _ h1, Result.andThen]
    · have hkey : ∀ e', es[j]? = some e' → ({ e' with key := enc k, val := v } : MapEntry).key = e'.key := fun e' he' => by rw [hj] at he'; cases he'; exact q3.symm
      have hat : ∀ i, (es.modify j fun e => { e with key := enc k, val := v }).toList[i]? = if j = i then some { e with key := enc k, val := v } else es.toList[i]? := by
        intro i
        rw [Array.getElem?_toList, Array.getElem?_modify]
        by_cases c : j = i
        · subst c; rw [if_pos rfl, if_pos rfl, hj]; rfl
        · rw [if_neg c, if_neg c, Array.getElem?_toList]
      refine ⟨_, _, (heap_set h1).1, stamped_modify h2 _ _ (fun _ _ => rfl) (fun e' _ he' => hkey e' he'), ?_, fun k' v' => ?_, by simp [hf, h5]⟩
      · intro x hx
        obtain ⟨i, hi⟩ := List.getElem?_of_mem hx
        rw [hat] at hi
        split at hi
        · injection hi with hi; subst hi; exact ⟨k, rfl⟩
        · exact h3 x (List.mem_of_getElem? hi)
      · dsimp only
        by_cases c : k' = k
        · subst c
          rw [if_pos rfl]
          constructor
          · intro e1
            injection e1 with e1
            refine ⟨{ e with key := enc k', val := v }, List.mem_of_getElem? (i := j) (by rw [hat, if_pos rfl]), rfl, e1⟩
          · rintro ⟨e1, he, g1, g2⟩
            obtain ⟨i, hi⟩ := List.getElem?_of_mem he
            rw [hat] at hi
            split at hi
            · injection hi with hi; subst hi; rw [← g2]
            · rename_i hji
              have := nodup_keys h2 q2 hi (q3.trans g1.symm)
              exact absurd this hji
        · rw [if_neg c, h4]
          constructor
          · rintro ⟨e1, he, g1, g2⟩
            obtain ⟨i, hi⟩ := List.getElem?_of_mem he
            refine ⟨e1, List.mem_of_getElem? (i := i) ?_, g1, g2⟩
            rw [hat, if_neg (fun hji => ?_)]
            · exact hi
            · subst hji
              rw [q2] at hi
              injection hi with hi
              subst hi
              exact c (hinj _ _ (g1.symm.trans q3))
          · rintro ⟨e1, he, g1, g2⟩
            obtain ⟨i, hi⟩ := List.getElem?_of_mem he
            rw [hat] at hi
            split at hi
            · injection hi with hi; subst hi; exact absurd (hinj _ _ g1).symm c
            · exact ⟨e1, List.mem_of_getElem? hi, g1, g2⟩
/-- delete(m, k) -/
theorem IMap.del [DecidableEq K] (h : IMap d enc w b f n) {t kt et ty : TypeId} (ht : P.underlying t = some (.map kt et)) (hd : P.underlying kt = some d) (hK : ∀ k, IsKey d (enc k)) (hinj : ∀ k k', enc k = enc k' → k = k') (k : K) :
    ∃ w', (Builtin.delete_ #[t, kt] ty #[.map (some b), enc k]).run P w = .ok (.tuple #[]) w' ∧ IMap d enc w' b (fun k' => if k' = k then none else f k') (if (f k).isSome then n - 1 else n) ∧ w.grownBy w' (some b) ∧ w'.heap.size = w.heap.size := by
  obtain ⟨es, clock, h1, h2, h3, h4, h5⟩ := h
  have hks : ∀ x ∈ es.toList, IsKey d x.key := fun x hx => by obtain ⟨k, e⟩ := h3 x hx; rw [e]; exact hK k
  have hgr : ∀ o : Obj, w.grownBy { w with heap := w.heap.setIfInBounds b o } (some b) := fun o =>
    ⟨rfl, rfl, rfl, by simp, fun k' _ hne => (heap_set h1).2 k' (fun e => hne (by rw [e]))⟩
  rcases findNow_spec (hK k) es.toList 0 hks with ⟨q1, q2⟩ | ⟨j, e, q1, q2, q3⟩
  · have hf : f k = none := by
      cases hv : f k with
      | none => rfl
      | some v => obtain ⟨e, he, hk, -⟩ := (h4 k v).1 hv; exact absurd hk (q2 e he)
    refine ⟨{ w with heap := w.heap.setIfInBounds b (.map es clock) }, ?_, ⟨es, clock, (heap_set h1).1, h2, h3, fun k' v' => ?_, by simp [hf, h5]⟩, hgr _, by simp⟩
    · simp [Builtin.delete_, run_underlying ht, Go.MapKept.run_getObj_map h1, Go.MapKept.run_checkKey hd (hK k), Go.MapKept.run_findKey hd q1, Go.MapKept.run_setObj_map _ h1, Result.andThen]
    · dsimp only
      by_cases c : k' = k
      · subst c
        rw [if_pos rfl, ← h4, hf]
      · rw [if_neg c]; exact h4 k' v'
  · have hf : f k = some e.val := (h4 k e.val).2 ⟨e, List.mem_of_getElem? q2, q3, rfl⟩
    have hj : es[j]? = some e := by simpa using q2
    have hjl : j < es.size := (Array.getElem?_eq_some_iff.1 hj).1
    have hlist : (es.eraseIdxIfInBounds j).toList = es.toList.eraseIdx j := by
      unfold Array.eraseIdxIfInBounds
      rw [dif_pos hjl, Array.toList_eraseIdx]
    refine ⟨{ w with heap := w.heap.setIfInBounds b (.map (es.eraseIdxIfInBounds j) clock) }, ?_, ⟨_, _, (heap_set h1).1, stamped_erase h2 _, ?_, fun k' v' => ?_, ?_⟩, hgr _, by simp⟩
    · simp [Builtin.delete_, run_underlying ht, Go.MapKept.run_getObj_map h1, Go.MapKept.run_checkKey hd (hK k), Go.MapKept.run_findKey hd q1, Go.MapKept.run_setObj_map _ h1, Result.andThen]
    · intro x hx
      rw [hlist] at hx
      exact h3 x ((List.eraseIdx_sublist _ _).subset hx)
    · have hmem : ∀ x, x ∈ (es.eraseIdxIfInBounds j).toList ↔ x ∈ es.toList ∧ x.key ≠ enc k := by
        intro x
        rw [hlist, List.mem_eraseIdx_iff_getElem?]
        constructor
        · rintro ⟨i, hij, hi⟩
          refine ⟨List.mem_of_getElem? hi, fun hk => hij ?_⟩
          exact (nodup_keys h2 q2 hi (q3.trans hk.symm)).symm
        · rintro ⟨hx, hne⟩
          obtain ⟨i, hi⟩ := List.getElem?_of_mem hx
          refine ⟨i, fun hij => ?_, hi⟩
          subst hij
          rw [q2] at hi
          injection hi with hi
          subst hi
          exact hne q3
      dsimp only
      by_cases c : k' = k
      · subst c
        rw [if_pos rfl]
        constructor
        · intro e; cases e
        · rintro ⟨e1, he, g1, g2⟩; exact absurd g1 ((hmem e1).1 he).2
      · rw [if_neg c, h4]
        constructor
        · rintro ⟨e1, he, g1, g2⟩; exact ⟨e1, (hmem e1).2 ⟨he, fun g => c (hinj _ _ (g1.symm.trans g))⟩, g1, g2⟩
        · rintro ⟨e1, he, g1, g2⟩; exact ⟨e1, ((hmem e1).1 he).1, g1, g2⟩
    · rw [if_pos (by rw [hf]; rfl), ← Array.length_toList, hlist, List.length_eraseIdx, if_pos (by simpa using hjl), Array.length_toList, h5]
/-- len(m) -/
theorem IMap.len (h : IMap d enc w b f n) {t kt et ty : TypeId} (ht : P.underlying t = some (.map kt et)) : (Builtin.len_ #[t] ty #[.map (some b)]).run P w = .ok (goInt n) w := by
  obtain ⟨es, clock, h1, h2, h3, h4, rfl⟩ := h
  simp [Builtin.len_, run_underlying ht, Go.MapKept.run_getObj_map h1, Result.andThen]
end
theorem wp_look {K : Type} {d : TypeDesc} {enc : K → Value} {b n : Nat} {f : K → Option Value} {P : Program} (w : World) {ops : Array Oper} {rest : List Oper} {o : Oper} {a : Act} {Q : Exit → Act → World → Prop}
    (hg : o.guard = none) (m x : Operand) (t : TypeId) (c : Bool) (hop : o.op = Op.lookup t m x c) (kt et : TypeId) (ht : P.underlying t = some (.map kt et)) (hd : P.underlying kt = some d) (hK : ∀ k, IsKey d (enc k)) (z : Value) (hz : ∀ w, (zeroValue et).run P w = .ok z w)
    (hm : a.eval m = .map (some b)) (h : IMap d enc w b f n) (k : K) (hx : a.eval x = enc k) (hQ : wpList P ops Q rest (a.put o.dst (if c then .tuple #[(f k).getD z, .bool (f k).isSome] else (f k).getD z)) w) : wpList P ops Q (o :: rest) a w := by
  refine wpList_plain hg fun K' hK' => ?_
  have hrun := h.look ht hd hK (hz w) k c
  generalize (if c then Value.tuple #[(f k).getD z, .bool (f k).isSome] else (f k).getD z) = v at hrun hQ
  unfold Oper.wp
  simp [execOp, hop, hm, hx, hrun, Result.andThen]
  exact hK' _ _ hQ
theorem wp_mput {K : Type} [DecidableEq K] {d : TypeDesc} {enc : K → Value} {b n : Nat} {f : K → Option Value} {P : Program} (w : World) {ops : Array Oper} {rest : List Oper} {o : Oper} {a : Act} {Q : Exit → Act → World → Prop}
    (hg : o.guard = none) (m x v : Operand) (t : TypeId) (hop : o.op = Op.mapUpdate t m x v) (kt et : TypeId) (ht : P.underlying t = some (.map kt et)) (hd : P.underlying kt = some d) (hK : ∀ k, IsKey d (enc k)) (hinj : ∀ k k', enc k = enc k' → k = k')
    (hm : a.eval m = .map (some b)) (h : IMap d enc w b f n) (k : K) (hx : a.eval x = enc k) (val : Value) (hv : a.eval v = val)
    (hQ : ∀ w', IMap d enc w' b (fun k' => if k' = k then some val else f k') (if (f k).isSome then n else n + 1) → w.grownBy w' (some b) → w'.heap.size = w.heap.size → wpList P ops Q rest (a.put o.dst undef) w') : wpList P ops Q (o :: rest) a w := by
  refine wpList_plain hg fun K' hK' => ?_
  obtain ⟨w', hrun, r1, r2, r3⟩ := h.put ht hd hK hinj k val
  unfold Oper.wp
  simp [execOp, hop, hm, hx, hv, hrun, Result.andThen]
  exact hK' _ _ (hQ w' r1 r2 r3)
theorem wp_mdel {K : Type} [DecidableEq K] {d : TypeDesc} {enc : K → Value} {b n : Nat} {f : K → Option Value} {P : Program} (w : World) {ops : Array Oper} {rest : List Oper} {o : Oper} {a : Act} {Q : Exit → Act → World → Prop}
    (hg : o.guard = none) (m x : Operand) (t kt et : TypeId) (hop : o.op = .call { callee := .builtin .delete, args := #[m, x], argTypes := #[t, kt] }) (ht : P.underlying t = some (.map kt et)) (hd : P.underlying kt = some d) (hK : ∀ k, IsKey d (enc k)) (hinj : ∀ k k', enc k = enc k' → k = k')
    (hm : a.eval m = .map (some b)) (h : IMap d enc w b f n) (k : K) (hx : a.eval x = enc k)
    (hQ : ∀ w', IMap d enc w' b (fun k' => if k' = k then none else f k') (if (f k).isSome then n - 1 else n) → w.grownBy w' (some b) → w'.heap.size = w.heap.size → wpList P ops Q rest (a.put o.dst (.tuple #[])) w') : wpList P ops Q (o :: rest) a w := by
  refine wpList_plain hg fun K' hK' => ?_
  obtain ⟨w', hrun, r1, r2, r3⟩ := h.del (ty := o.type) ht hd hK hinj k
  unfold Oper.wp
  simp [execOp, hop, resolve, invoke, builtin, hm, hx, hrun, Result.andThen]
  exact hK' _ _ (hQ w' r1 r2 r3)
/-- integers as keys -/
abbrev ik (k : Int) : Value := .int .i64 k
theorem ik_key (k : Int) : IsKey (.int .i64) (ik k) := rfl
theorem ik_inj (k k' : Int) (h : ik k = ik k') : k = k' := by injection h
/-- texts as keys -/
abbrev sk (s : ByteArray) : Value := .string s
theorem sk_key (s : ByteArray) : IsKey .string (sk s) := trivial
theorem sk_inj (s s' : ByteArray) (h : sk s = sk s') : s = s' := by injection h

end Go.Proofs.YtmmchhlfbhbigaaDoor

namespace Go.Proofs.YtmmchhlfbhbigaaDoor
set_option maxRecDepth 100000
open Go.RowKit Go.Joins Go.ChangeShapes Go.WideShapes
set_option linter.unusedVariables false
set_option linter.unusedSimpArgs false

/-- OnesCount64's own steps -/
def ocA (x : Nat) : Nat := ((x >>> 1) &&& 6148914691236517205) + (x &&& 6148914691236517205)
def ocB (a : Nat) : Nat := ((a >>> 2) &&& 3689348814741910323) + (a &&& 3689348814741910323)
def ocC (b : Nat) : Nat := ((b >>> 4) + b) &&& 1085102592571150095
def ocD (c : Nat) : Nat := c + (c >>> 8)
def ocE (d : Nat) : Nat := d + (d >>> 16)
def ocF (e : Nat) : Nat := e + (e >>> 32)
def oc (x : Nat) : Nat := (ocF (ocE (ocD (ocC (ocB (ocA x)))))) &&& 127
/-- how many bits a byte has -/
def pc (x : Nat) : Nat := x % 2 + x / 2 % 2 + x / 4 % 2 + x / 8 % 2 + x / 16 % 2 + x / 32 % 2 + x / 64 % 2 + x / 128 % 2
def ocRow (h : Nat) : Nat → Bool
  | 0 => true
  | l + 1 => (let x := 256 * h + l; (oc x == pc h + pc l) && Nat.ble (ocA x) 65535 && Nat.ble (ocB (ocA x)) 65535 && Nat.ble (ocC (ocB (ocA x))) 65535) && ocRow h l
def ocAll : Nat → Bool
  | 0 => true
  | h + 1 => ocRow h 256 && ocAll h
theorem oc_all : ocAll 256 = true := by decide +kernel
theorem ocRow_at {h : Nat} : ∀ {n l : Nat}, ocRow h n = true → l < n → oc (256 * h + l) = pc h + pc l ∧ ocA (256 * h + l) ≤ 65535 ∧ ocB (ocA (256 * h + l)) ≤ 65535 ∧ ocC (ocB (ocA (256 * h + l))) ≤ 65535
  | 0, l, _, hl => absurd hl (by omega)
  | n + 1, l, hr, hl => by
    unfold ocRow at hr
    simp only [Bool.and_eq_true, beq_iff_eq] at hr
    obtain ⟨⟨⟨⟨h1, h2⟩, h3⟩, h4⟩, h5⟩ := hr
    by_cases c : l = n
    · subst c
      exact ⟨h1, Nat.le_of_ble_eq_true h2, Nat.le_of_ble_eq_true h3, Nat.le_of_ble_eq_true h4⟩
    · exact ocRow_at h5 (by omega)
theorem ocAll_at : ∀ {n h : Nat}, ocAll n = true → h < n → ocRow h 256 = true
  | 0, h, _, hh => absurd hh (by omega)
  | n + 1, h, hr, hh => by
    unfold ocAll at hr
    simp only [Bool.and_eq_true] at hr
    by_cases c : h = n
    · subst c; exact hr.1
    · exact ocAll_at hr.2 (by omega)
/-- how many bits a page has -/
def pc16 (x : Nat) : Nat := pc (x / 256) + pc (x % 256)
theorem oc_eq {x : Nat} (hx : x < 65536) : oc x = pc16 x ∧ ocA x ≤ 65535 ∧ ocB (ocA x) ≤ 65535 ∧ ocC (ocB (ocA x)) ≤ 65535 := by
  have h := ocRow_at (ocAll_at oc_all (show x / 256 < 256 by omega)) (show x % 256 < 256 by omega)
  rw [show 256 * (x / 256) + x % 256 = x by omega] at h
  exact h

theorem u64_id {x : Nat} (h : x < 18446744073709551616) : IntKind.u64.wrap (x : Int) = (x : Int) := by
  simp [IntKind.wrap, IntKind.signed, IntKind.bits]
  omega
theorem u64_and (a b : Nat) (ha : a < 18446744073709551616) (hb : b < 18446744073709551616) (z : Int) (hz : z = (b : Int)) : bits .and .u64 (a : Int) z = ((a &&& b : Nat) : Int) := by
  subst hz
  exact bits_and_u64_nat a b ha hb
theorem shr_le (x k : Nat) : x >>> k ≤ x := by rw [Nat.shiftRight_eq_div_pow]; exact Nat.div_le_self _ _
theorem oc_stepA {x : Nat} (hx : x < 65536) (h : ocA x ≤ 65535) : IntKind.u64.wrap (bits .and .u64 ((x : Int) / 2) 6148914691236517205 + bits .and .u64 (x : Int) 6148914691236517205) = ((ocA x : Nat) : Int) := by
  rw [show ((x : Int) / (2 : Int)) = ((x >>> 1 : Nat) : Int) by rw [Nat.shiftRight_eq_div_pow]; omega]
  rw [u64_and (x >>> 1) 6148914691236517205 (by have := shr_le x 1; omega) (by decide) (6148914691236517205 : Int) rfl, u64_and x 6148914691236517205 (by omega) (by decide) (6148914691236517205 : Int) rfl]
  rw [← Int.natCast_add]
  exact u64_id (by unfold ocA at h; omega)
theorem oc_stepB {a : Nat} (ha : a ≤ 65535) (h : ocB a ≤ 65535) : IntKind.u64.wrap (bits .and .u64 ((a : Int) / 4) 3689348814741910323 + bits .and .u64 (a : Int) 3689348814741910323) = ((ocB a : Nat) : Int) := by
  rw [show ((a : Int) / (4 : Int)) = ((a >>> 2 : Nat) : Int) by rw [Nat.shiftRight_eq_div_pow]; omega]
  rw [u64_and (a >>> 2) 3689348814741910323 (by have := shr_le a 2; omega) (by decide) (3689348814741910323 : Int) rfl, u64_and a 3689348814741910323 (by omega) (by decide) (3689348814741910323 : Int) rfl]
  rw [← Int.natCast_add]
  exact u64_id (by unfold ocB at h; omega)
theorem oc_stepC {b : Nat} (hb : b ≤ 65535) : bits .and .u64 (IntKind.u64.wrap ((b : Int) / 16 + (b : Int))) 1085102592571150095 = ((ocC b : Nat) : Int) := by
  rw [show ((b : Int) / (16 : Int) + (b : Int)) = (((b >>> 4) + b : Nat) : Int) by rw [Nat.shiftRight_eq_div_pow]; omega]
  have := shr_le b 4
  rw [u64_id (by omega), u64_and ((b >>> 4) + b) 1085102592571150095 (by omega) (by decide) (1085102592571150095 : Int) rfl]
  rfl
theorem oc_stepD {c : Nat} (hc : c ≤ 65535) : IntKind.u64.wrap ((c : Int) + (c : Int) / 256) = ((ocD c : Nat) : Int) ∧ ocD c ≤ 131070 := by
  have := shr_le c 8
  refine ⟨?_, by unfold ocD; omega⟩
  rw [show ((c : Int) + (c : Int) / (256 : Int)) = ((c + (c >>> 8) : Nat) : Int) by rw [Nat.shiftRight_eq_div_pow]; omega]
  exact u64_id (by omega)
theorem oc_stepE {c : Nat} (hc : c ≤ 131070) : IntKind.u64.wrap ((c : Int) + (c : Int) / 65536) = ((ocE c : Nat) : Int) ∧ ocE c ≤ 262140 := by
  have := shr_le c 16
  refine ⟨?_, by unfold ocE; omega⟩
  rw [show ((c : Int) + (c : Int) / (65536 : Int)) = ((c + (c >>> 16) : Nat) : Int) by rw [Nat.shiftRight_eq_div_pow]; omega]
  exact u64_id (by omega)
theorem oc_stepF {c : Nat} (hc : c ≤ 262140) : IntKind.u64.wrap ((c : Int) + (c : Int) / 4294967296) = ((ocF c : Nat) : Int) ∧ ocF c ≤ 524280 := by
  have := shr_le c 32
  refine ⟨?_, by unfold ocF; omega⟩
  rw [show ((c : Int) + (c : Int) / (4294967296 : Int)) = ((c + (c >>> 32) : Nat) : Int) by rw [Nat.shiftRight_eq_div_pow]; omega]
  exact u64_id (by omega)
set_option maxHeartbeats 1000000 in
theorem ones_any (x : Nat) (hx : x < 65536) (w : World) : Calls Tryd.prog 43 #[.int .u64 x] w fun e w' => e = .returned (.int .i64 (pc16 x : Nat)) ∧ w = w' := by
  obtain ⟨h0, hA, hB, hC⟩ := oc_eq hx
  have e1 := oc_stepA hx hA
  have e2 := oc_stepB hA hB
  have e3 := oc_stepC hB
  have e4 := oc_stepD hC
  have e5 := oc_stepE e4.2
  have e6 := oc_stepF e5.2
  have e7 : bits .and .i64 ((ocF (ocE (ocD (ocC (ocB (ocA x))))) : Nat) : Int) 127 = (oc x : Nat) := by
    unfold oc
    generalize ocF (ocE (ocD (ocC (ocB (ocA x))))) = f at *
    rw [i64_and127, show f &&& 127 = f % 128 from Nat.and_two_pow_sub_one_eq_mod f 7]
    omega
  rw [h0] at e7
  have H := Lib.hid (And.intro e1 (And.intro e2 (And.intro e3 (And.intro e4.1 (And.intro e5.1 (And.intro e6 e7))))))
  clear h0 hA hB hC e1 e2 e3 e4 e5 e6 e7
  generalize ocF (ocE (ocD (ocC (ocB (ocA x))))) = f at *
  generalize ocE (ocD (ocC (ocB (ocA x)))) = e at *
  generalize ocD (ocC (ocB (ocA x))) = d at *
  generalize ocC (ocB (ocA x)) = c at *
  generalize ocB (ocA x) = b at *
  generalize ocA x = a at *
  generalize pc16 x = p at *
  obtain ⟨e1, e2, e3, e4, e5, ⟨e6, e7⟩, e8⟩ := H.out
  have e9 : (f : Int) < 524281 := by omega
  go_enter Tryd.func43, Tryd.ntmps43
  go_wp2
  go_ret
  exact ⟨rfl, rfl⟩

/-- the library's table of places -/
def TabT (w : World) : Prop := 2 < w.heap.size ∧ ∀ i, i < 64 → w.cell? ⟨2, i, none⟩ = some (.int .u8 ((Lib.deBruijn64tab.getD i 0 : Nat) : Int))
theorem TabT.below {w w1 : World} (h : TabT w) (hb : Below w.heap.size w w1) : TabT w1 := ⟨Nat.lt_of_lt_of_le h.1 hb.size, fun i hi => (hb.cell h.1).trans (h.2 i hi)⟩
theorem gTz : Tryd.prog.globalNamed "math/bits.deBruijn64tab" = some 2 := by kernel_rfl
theorem tTz : (Tryd.prog.globals[2]?).map (·.type) = some 178 := by kernel_rfl
theorem cTz : Tryd.prog.cellsOf 178 = 64 := by kernel_rfl
theorem cTz1 : Tryd.prog.cellsOf 5 = 1 := by kernel_rfl
theorem laid_tz : ([("math/bits.deBruijn64tab", Rows.laid_math_bits_deBruijn64tab)] : List (String × DataW Unit)) = ("math/bits.deBruijn64tab", Lib.tabData .u8 (Lib.deBruijn64tab.map fun x : Nat => (x : Int))) :: [] := rfl
theorem tabT_of_laid {W : World} (h : laidMetH Tryd.prog [("math/bits.deBruijn64tab", Rows.laid_math_bits_deBruijn64tab)] W) : TabT W := by
  rw [laid_tz] at h
  have hT := Lib.tabIs_of_head (rest := []) gTz tTz Tryd.underlying178 Tryd.underlying5 cTz1 cTz h
  have hc : ∀ i, i < 64 → W.cell? ⟨2, i, none⟩ = some (.int .u8 ((Lib.deBruijn64tab.getD i 0 : Nat) : Int)) := fun i hi => by
    rw [hT.cell gTz i hi]
    congr 2
    rw [List.getD_eq_getElem?_getD, List.getD_eq_getElem?_getD, List.getElem?_map]
    have hx : Lib.deBruijn64tab[i]? = some (Lib.deBruijn64tab[i]'(by exact hi)) := List.getElem?_eq_getElem _
    rw [hx]
    rfl
  exact ⟨World.block_lt_of_cell? W _ (hc 0 (by decide)), hc⟩

end Go.Proofs.YtmmchhlfbhbigaaDoor

namespace Go.Proofs.YtmmchhlfbhbigaaDoor
set_option maxRecDepth 100000
open Go.RowKit Go.Joins Go.ChangeShapes Go.WideShapes
set_option linter.unusedVariables false
set_option linter.unusedSimpArgs false

/-- the numbers that the library's text has here -/
def tzRen : Go.Shelf.Ren where
  f := fun x => match x with
    | 29 => 91
    | n => n
  t := fun x => match x with
    | 22 => 83
    | 3 => 3
    | 4 => 4
    | 25 => 139
    | 54 => 178
    | 0 => 0
    | 5 => 5
    | n => n
  g := fun x => match x with
    | 1 => 2
    | n => n
theorem tzLays : Go.Proofs.Lays7.n29 Tryd.prog tzRen :=
  { mixed := by kernel_rfl, f29 := Eq.trans Tryd.func91 (congrArg some rfl),
    t0 := Tryd.underlying0, a0 := Tryd.isAgg0, z0 := Tryd.sizeOf0, v0 := Tryd.zeroValue0, i0 := by kernel_rfl,
    t3 := Tryd.underlying3, a3 := Tryd.isAgg3, z3 := Tryd.sizeOf3, v3 := Tryd.zeroValue3, i3 := by kernel_rfl,
    t4 := Tryd.underlying4, a4 := Tryd.isAgg4, z4 := Tryd.sizeOf4, v4 := Tryd.zeroValue4, i4 := by kernel_rfl,
    t5 := Tryd.underlying5, a5 := Tryd.isAgg5, z5 := Tryd.sizeOf5, v5 := Tryd.zeroValue5, i5 := by kernel_rfl,
    t22 := Tryd.underlying83, a22 := Tryd.isAgg83, z22 := Tryd.sizeOf83, v22 := Tryd.zeroValue83, i22 := by kernel_rfl,
    t25 := Tryd.underlying139, a25 := Tryd.isAgg139, z25 := Tryd.sizeOf139, v25 := Tryd.zeroValue139, i25 := by kernel_rfl,
    t54 := Tryd.underlying178, a54 := Tryd.isAgg178, z54 := Tryd.sizeOf178, g1 := by kernel_rfl }
theorem tz_any (x : Nat) (hx : x < 18446744073709551616) (w : World) (hT : TabT w) : Calls Tryd.prog 91 #[.int .u64 x] w fun e w' => e = .returned (.int .i64 (Lib.ctz 64 x : Nat)) ∧ w = w' := by
  refine (Go.Proofs.Any7.bits_TrailingZeros64 tzLays x hx w (fun _ => ?_)).mono ?_
  · intro j hj
    exact hT.2 j hj
  · rintro e w' ⟨rfl, rfl⟩
    exact ⟨rfl, rfl⟩

end Go.Proofs.YtmmchhlfbhbigaaDoor

namespace Go.Proofs.YtmmchhlfbhbigaaDoor
set_option maxRecDepth 100000
open Go.RowKit Go.Joins Go.ChangeShapes Go.WideShapes
set_option linter.unusedVariables false
set_option linter.unusedSimpArgs false

/-- what the program asks the first bit of -/
def notP (p : Nat) : Nat := 18446744073709551615 - p
theorem notP_lt (p : Nat) : notP p < 18446744073709551616 := by unfold notP; omega
theorem notP_bit {p : Nat} (hp : p < 65536) (i : Nat) : (notP p).testBit i = (decide (i < 64) && !p.testBit i) := by
  have h := Nat.testBit_two_pow_sub_succ (x := p) (n := 64) (by omega) i
  rw [← h]
  congr 1
  unfold notP
  omega
theorem bit_high {p i : Nat} (hp : p < 65536) (hi : 16 ≤ i) : p.testBit i = false :=
  Nat.testBit_lt_two_pow (Nat.lt_of_lt_of_le (show p < 2 ^ 16 by omega) (Nat.pow_le_pow_right (by omega) hi))
theorem page_full {p : Nat} (hp : p < 65536) (h : ∀ s, s < 16 → p.testBit s = true) : p = 65535 := by
  apply Nat.eq_of_testBit_eq
  intro i
  rw [show (65535 : Nat) = 2 ^ 16 - 1 from rfl, Nat.testBit_two_pow_sub_one]
  by_cases hi : i < 16
  · rw [h i hi, decide_eq_true hi]
  · rw [bit_high hp (by omega), decide_eq_false hi]
theorem full_bit (s : Nat) (h : s < 16) : (65535 : Nat).testBit s = true := by
  rw [show (65535 : Nat) = 2 ^ 16 - 1 from rfl, Nat.testBit_two_pow_sub_one, decide_eq_true h]
/-- the first free slot of a page -/
theorem ctz_free {p : Nat} (hp : p < 65536) (hf : p ≠ 65535) :
    Lib.ctz 64 (notP p) < 16 ∧ p.testBit (Lib.ctz 64 (notP p)) = false ∧ ∀ s, s < Lib.ctz 64 (notP p) → p.testBit s = true := by
  have h0 : notP p ≠ 0 := by unfold notP; omega
  have e : Lib.ctz 64 (notP p) = Lib.ctzFrom 64 (notP p) := by simp [Lib.ctz, h0]
  obtain ⟨m, hm, hk⟩ := Lib.ctzFrom_spec 64 (notP p) (by omega) (notP_lt p)
  rw [e]
  generalize Lib.ctzFrom 64 (notP p) = t at hm hk
  have hb : ∀ i, (notP p).testBit i = (decide (i ≥ t) && (2 * m + 1).testBit (i - t)) := fun i => by
    conv => lhs; rw [hm]
    exact Nat.testBit_two_pow_mul
  have ht : p.testBit t = false := by
    have h1 := hb t
    rw [notP_bit hp, decide_eq_true hk, Nat.sub_self] at h1
    have h2 : (2 * m + 1).testBit 0 = true := by simp [Nat.testBit_zero]
    rw [h2] at h1
    simpa using h1
  have hs : ∀ s, s < t → p.testBit s = true := fun s hs => by
    have h1 := hb s
    rw [notP_bit hp, decide_eq_true (show s < 64 by omega), decide_eq_false (show ¬ s ≥ t by omega)] at h1
    simpa using h1
  refine ⟨?_, ht, hs⟩
  by_cases h : t < 16
  · exact h
  · exact absurd (page_full hp fun s h' => hs s (by omega)) hf

/-- a page with one slot more -/
def setP (p t : Nat) : Nat := p ||| 2 ^ t
theorem setP_lt {p t : Nat} (hp : p < 65536) (ht : t < 16) : setP p t < 65536 := by
  have : p ||| 2 ^ t < 2 ^ 16 := Nat.or_lt_two_pow (by omega) (Nat.pow_lt_pow_right (by omega) ht)
  exact this
theorem setP_bit (p t s : Nat) : (setP p t).testBit s = (p.testBit s || decide (t = s)) := by
  unfold setP; rw [Nat.testBit_or, Nat.testBit_two_pow]
/-- a page with one slot less -/
def clrP (p t : Nat) : Nat := p ^^^ (p &&& 2 ^ t)
theorem clrP_bit (p t s : Nat) : (clrP p t).testBit s = (p.testBit s && !decide (t = s)) := by
  unfold clrP
  rw [Nat.testBit_xor, Nat.testBit_and, Nat.testBit_two_pow]
  cases p.testBit s <;> cases decide (t = s) <;> rfl
theorem clrP_lt {p t : Nat} (hp : p < 65536) : clrP p t < 65536 := by
  have h : p &&& 2 ^ t < 2 ^ 16 := Nat.lt_of_le_of_lt Nat.and_le_left (by omega)
  have : p ^^^ (p &&& 2 ^ t) < 2 ^ 16 := Nat.xor_lt_two_pow (by omega) h
  exact this
theorem zero_page {p : Nat} (hp : p < 65536) : p = 0 ↔ ∀ s, s < 16 → p.testBit s = false := by
  constructor
  · rintro rfl s _; exact Nat.zero_testBit s
  · intro h
    apply Nat.eq_of_testBit_eq
    intro i
    rw [Nat.zero_testBit]
    by_cases hi : i < 16
    · exact h i hi
    · exact bit_high hp (by omega)

/-- how many of a page's first slots are taken -/
def bc (p : Nat) : Nat → Nat
  | 0 => 0
  | n + 1 => bc p n + (p.testBit n).toNat
theorem tb_nat (p s : Nat) : (p.testBit s).toNat = p / 2 ^ s % 2 := by
  rw [Nat.testBit_eq_decide_div_mod_eq]
  rcases Nat.mod_two_eq_zero_or_one (p / 2 ^ s) with h | h <;> simp [h]
theorem pc16_bc {p : Nat} (hp : p < 65536) : pc16 p = bc p 16 := by
  have e : ∀ x : Nat, pc x = bc x 8 := fun x => by
    simp only [bc, tb_nat, pc, Nat.zero_add]
    simp
  have e1 : ∀ k, k < 8 → (p % 256).testBit k = p.testBit k := fun k hk => by
    rw [show (256 : Nat) = 2 ^ 8 from rfl, Nat.testBit_mod_two_pow, decide_eq_true hk, Bool.true_and]
  have e2 : ∀ k, (p / 256).testBit k = p.testBit (k + 8) := fun k => by
    rw [show (256 : Nat) = 2 ^ 8 from rfl, Nat.testBit_div_two_pow]
  unfold pc16
  rw [e, e]
  simp only [bc, e2]
  rw [e1 0 (by omega), e1 1 (by omega), e1 2 (by omega), e1 3 (by omega), e1 4 (by omega), e1 5 (by omega), e1 6 (by omega), e1 7 (by omega)]
  simp only [Nat.reduceAdd]
  omega
theorem bc_set {p t : Nat} (h : p.testBit t = false) : ∀ n, bc (setP p t) n = bc p n + (if t < n then 1 else 0)
  | 0 => by simp [bc]
  | n + 1 => by
    simp only [bc]
    rw [bc_set h n, setP_bit]
    by_cases e : t = n
    · subst e; simp [h]
    · by_cases g : t < n
      · rw [if_pos g, if_pos (show t < n + 1 by omega), decide_eq_false e, Bool.or_false]; omega
      · rw [if_neg g, if_neg (show ¬ t < n + 1 by omega), decide_eq_false e, Bool.or_false]; omega
theorem bc_clr {p t : Nat} (h : p.testBit t = true) : ∀ n, bc (clrP p t) n + (if t < n then 1 else 0) = bc p n
  | 0 => by simp [bc]
  | n + 1 => by
    have h1 := bc_clr h n
    simp only [bc]
    rw [clrP_bit, ← h1]
    by_cases e : t = n
    · subst e; simp [h]
    · by_cases g : t < n
      · rw [if_pos g, if_pos (show t < n + 1 by omega), decide_eq_false e, Bool.not_false, Bool.and_true]; omega
      · rw [if_neg g, if_neg (show ¬ t < n + 1 by omega), decide_eq_false e, Bool.not_false, Bool.and_true]; omega
theorem pc16_set {p t : Nat} (hp : p < 65536) (ht : t < 16) (h : p.testBit t = false) : pc16 (setP p t) = pc16 p + 1 := by
  rw [pc16_bc hp, pc16_bc (setP_lt hp ht), bc_set h, if_pos ht]
theorem pc16_clr {p t : Nat} (hp : p < 65536) (ht : t < 16) (h : p.testBit t = true) : pc16 (clrP p t) + 1 = pc16 p := by
  have := bc_clr h 16
  rw [pc16_bc hp, pc16_bc (clrP_lt hp), ← this, if_pos ht]

/-- the program's own sums, on a page -/
theorem or_page {p t : Nat} (hp : p < 65536) (ht : t < 16) : bits .or .u64 (p : Int) ((2 ^ t : Nat) : Int) = ((setP p t : Nat) : Int) := by
  have h2 : 2 ^ t < 2 ^ 16 := Nat.pow_lt_pow_right (by omega) ht
  unfold bits
  simp only [BitVec.ofInt_natCast]
  have : (BitVec.ofNat 64 p ||| BitVec.ofNat 64 (2 ^ t)).toNat = setP p t := by
    rw [BitVec.toNat_or, BitVec.toNat_ofNat, BitVec.toNat_ofNat, Nat.mod_eq_of_lt (by omega), Nat.mod_eq_of_lt (by omega)]; rfl
  refine Eq.trans (congrArg (fun n : Nat => IntKind.u64.wrap (n : Int)) this) ?_
  exact u64_id (Nat.lt_trans (setP_lt hp ht) (by omega))
theorem not_page {p : Nat} (hp : p < 65536) : IntKind.u64.wrap (-(p : Int) - 1) = ((notP p : Nat) : Int) := by
  unfold notP
  simp [IntKind.wrap, IntKind.bits, IntKind.signed]
  omega
theorem clr_page {p t : Nat} (hp : p < 65536) (ht : t < 16) : bits .andNot .u64 (p : Int) ((2 ^ t : Nat) : Int) = ((clrP p t : Nat) : Int) := by
  have h2 : 2 ^ t < 2 ^ 16 := Nat.pow_lt_pow_right (by omega) ht
  unfold bits
  simp only [BitVec.ofInt_natCast]
  have : (BitVec.ofNat 64 p &&& ~~~ BitVec.ofNat 64 (2 ^ t)).toNat = clrP p t := by
    apply Nat.eq_of_testBit_eq
    intro i
    rw [clrP_bit, BitVec.testBit_toNat, BitVec.getLsbD_and, BitVec.getLsbD_not, BitVec.getLsbD_ofNat, BitVec.getLsbD_ofNat, Nat.testBit_two_pow]
    by_cases hi : i < 64
    · simp [hi]
    · simp [hi, bit_high hp (show 16 ≤ i by omega)]
  refine Eq.trans (congrArg (fun n : Nat => IntKind.u64.wrap (n : Int)) this) ?_
  exact u64_id (Nat.lt_trans (clrP_lt hp) (by omega))

end Go.Proofs.YtmmchhlfbhbigaaDoor

namespace Go.Proofs.YtmmchhlfbhbigaaDoor
set_option maxRecDepth 100000
open Go.RowKit

/-- cells that lie in a world, not frozen -/
def Kp (w : World) (l : List (Nat × Nat × Value)) : Prop := ∀ x ∈ l, x.1 < w.heap.size ∧ w.cell? ⟨x.1, x.2.1, none⟩ = some x.2.2 ∧ w.frozen? ⟨x.1, x.2.1, none⟩ = false

theorem Kp.below {w w1 : World} {l : List (Nat × Nat × Value)} (h : Kp w l) (hb : Below w.heap.size w w1) : Kp w1 l := by
  obtain ⟨hc, hf⟩ := bcell hb
  intro x hx
  obtain ⟨a, b, c⟩ := h x hx
  exact ⟨Nat.lt_of_lt_of_le a hb.size, (hc _ _ a).trans b, (hf _ _ a).trans c⟩
theorem Kp.drew {w : World} {l : List (Nat × Nat × Value)} (h : Kp w l) : Kp w.drew l := h
theorem Kp.hd {w : World} {b o : Nat} {v : Value} {l : List (Nat × Nat × Value)} (h : Kp w ((b, o, v) :: l)) : w.cell? ⟨b, o, none⟩ = some v ∧ w.frozen? ⟨b, o, none⟩ = false := (h _ (List.mem_cons_self ..)).2
theorem Kp.lt {w : World} {b o : Nat} {v : Value} {l : List (Nat × Nat × Value)} (h : Kp w ((b, o, v) :: l)) : b < w.heap.size := (h _ (List.mem_cons_self ..)).1
theorem Kp.tl {w : World} {x : Nat × Nat × Value} {l : List (Nat × Nat × Value)} (h : Kp w (x :: l)) : Kp w l := fun y hy => h y (List.mem_cons_of_mem _ hy)
theorem Kp.two {w : World} {b o b' o' : Nat} {v v' : Value} {l : List (Nat × Nat × Value)} (h : Kp w ((b, o, v) :: (b', o', v') :: l)) :
    (w.cell? ⟨b, o, none⟩ = some v ∧ w.frozen? ⟨b, o, none⟩ = false) ∧ w.cell? ⟨b', o', none⟩ = some v' ∧ w.frozen? ⟨b', o', none⟩ = false := ⟨h.hd, h.tl.hd⟩

/-- a world on the way: below B it is as w was, and it has these cells -/
def Rg (B : Nat) (w wx : World) (l : List (Nat × Nat × Value)) : Prop := Below B w wx ∧ B ≤ wx.heap.size ∧ Kp wx l
theorem Rg.step {B : Nat} {w w0 w1 : World} {l : List (Nat × Nat × Value)} (h : Rg B w w0 l) (hb : Below w0.heap.size w0 w1) : Rg B w w1 l :=
  ⟨h.1.trans (hb.mono h.2.1), Nat.le_trans h.2.1 hb.size, h.2.2.below hb⟩
theorem Rg.drew {B : Nat} {w w0 : World} {l : List (Nat × Nat × Value)} (h : Rg B w w0 l) : Rg B w w0.drew l := ⟨h.1.drew, h.2.1, h.2.2⟩
theorem Rg.kp {B : Nat} {w w0 : World} {l : List (Nat × Nat × Value)} (h : Rg B w w0 l) : Kp w0 l := h.2.2
theorem Rg.bel {B : Nat} {w w0 : World} {l : List (Nat × Nat × Value)} (h : Rg B w w0 l) : Below B w w0 := h.1
theorem Rg.sub {B : Nat} {w w0 : World} {l l' : List (Nat × Nat × Value)} (h : Rg B w w0 l) (hs : ∀ x ∈ l', x ∈ l) : Rg B w w0 l' := ⟨h.1, h.2.1, fun x hx => h.2.2 x (hs x hx)⟩
theorem Rg.set {B : Nat} {w w0 : World} {b o : Nat} {v u : Value} {l : List (Nat × Nat × Value)} (h : Rg B w w0 ((b, o, v) :: l)) (hB : B ≤ b) (hne : ∀ x ∈ l, ¬ (x.1 = b ∧ x.2.1 = o)) :
    Rg B w (w0.setCell ⟨b, o, none⟩ u) ((b, o, u) :: l) := by
  obtain ⟨hc, hf⟩ := h.2.2.hd
  have hl := h.2.2.lt
  refine ⟨h.1.setCell hB u, by simpa [World.setCell] using h.2.1, fun x hx => ?_⟩
  rcases List.mem_cons.1 hx with rfl | hx
  · refine ⟨by simpa [World.setCell] using hl, ?_, ?_⟩
    · go_simp
    · simpa using hf
  · obtain ⟨a, c, d⟩ := h.2.2 x (List.mem_cons_of_mem _ hx)
    refine ⟨by simpa [World.setCell] using a, ?_, by simpa using d⟩
    rw [World.cell?_setCell_other _ _ _ _ (fun e => hne x hx (by injection e with e1 e2; exact ⟨e1.symm, e2.symm⟩))]
    exact c
theorem Kp.alloc {w : World} {l : List (Nat × Nat × Value)} (h : Kp w l) (o : Obj) : Kp (w.alloc o) l := h.below ((Below.refl _ _).alloc (Nat.le_refl _) _)
theorem Rg.alloc {B : Nat} {w w0 : World} {l : List (Nat × Nat × Value)} (h : Rg B w w0 l) (o : Obj) : Rg B w (w0.alloc o) l := h.step ((Below.refl _ _).alloc (Nat.le_refl _) _)
/-- the first cell goes to the end -/
theorem Rg.turn {B : Nat} {w w0 : World} {x : Nat × Nat × Value} {l : List (Nat × Nat × Value)} (h : Rg B w w0 (x :: l)) : Rg B w w0 (l ++ [x]) :=
  h.sub fun y hy => by rcases List.mem_append.1 hy with h | h; exact List.mem_cons_of_mem _ h; simp at h; subst h; exact List.mem_cons_self ..

/-- what a cell holds -/
def cval (w : World) (a : Addr) : Value := (w.cell? a).getD (.int .i64 0)
theorem cval_of {w : World} {a : Addr} {v : Value} (h : w.cell? a = some v) : w.cell? a = some (cval w a) := by unfold cval; rw [h]; rfl

/-- a world on the way: below it is as w was, these cells stay, and the cells of block g may be written -/
def Og (B g n : Nat) (w wx : World) (l : List (Nat × Nat × Value)) : Prop :=
  Rg B w wx l ∧ B ≤ g ∧ (∀ x ∈ l, x.1 ≠ g) ∧ g < wx.heap.size ∧ ∀ o, o < n → (∃ v, wx.cell? ⟨g, o, none⟩ = some v) ∧ wx.frozen? ⟨g, o, none⟩ = false
theorem Og.step {B g n : Nat} {w w0 w1 : World} {l : List (Nat × Nat × Value)} (h : Og B g n w w0 l) (hb : Below w0.heap.size w0 w1) : Og B g n w w1 l := by
  obtain ⟨hc, hf⟩ := bcell hb
  obtain ⟨a, b, c, d, e⟩ := h
  refine ⟨a.step hb, b, c, Nat.lt_of_lt_of_le d hb.size, fun o ho => ?_⟩
  obtain ⟨⟨v, hv⟩, f⟩ := e o ho
  exact ⟨⟨v, (hc _ _ d).trans hv⟩, (hf _ _ d).trans f⟩
theorem Og.drew {B g n : Nat} {w w0 : World} {l : List (Nat × Nat × Value)} (h : Og B g n w w0 l) : Og B g n w w0.drew l := ⟨h.1.drew, h.2.1, h.2.2.1, h.2.2.2.1, h.2.2.2.2⟩
theorem Og.set {B g n : Nat} {w w0 : World} {l : List (Nat × Nat × Value)} (h : Og B g n w w0 l) (o : Nat) (u : Value) : Og B g n w (w0.setCell ⟨g, o, none⟩ u) l := by
  obtain ⟨⟨a1, a2, a3⟩, b, c, d, e⟩ := h
  refine ⟨⟨a1.setCell b u, by simpa [World.setCell] using a2, fun x hx => ?_⟩, b, c, by simpa [World.setCell] using d, fun o' ho => ?_⟩
  · obtain ⟨p, q, r⟩ := a3 x hx
    refine ⟨by simpa [World.setCell] using p, ?_, by simpa using r⟩
    rw [World.cell?_setCell_other _ _ _ _ (fun e => c x hx (by injection e with e1 e2; exact e1.symm))]
    exact q
  · obtain ⟨⟨v, hv⟩, f⟩ := e o' ho
    refine ⟨?_, by simpa using f⟩
    by_cases ho' : o' = o
    · subst ho'
      exact ⟨u, by go_simp⟩
    · refine ⟨v, ?_⟩
      rw [World.cell?_setCell_other _ _ _ _ (fun e => ho' (by injection e with e1 e2; exact e2.symm))]
      exact hv
theorem Og.bel {B g n : Nat} {w w0 : World} {l : List (Nat × Nat × Value)} (h : Og B g n w w0 l) : Below B w w0 := h.1.1
theorem Og.kp {B g n : Nat} {w w0 : World} {l : List (Nat × Nat × Value)} (h : Og B g n w w0 l) : Kp w0 l := h.1.kp
theorem Og.own {B g n : Nat} {w w0 : World} {l : List (Nat × Nat × Value)} (h : Og B g n w w0 l) (o : Nat) (ho : o < n) : w0.cell? ⟨g, o, none⟩ = some (cval w0 ⟨g, o, none⟩) ∧ w0.frozen? ⟨g, o, none⟩ = false := by
  obtain ⟨⟨v, hv⟩, f⟩ := h.2.2.2.2 o ho
  exact ⟨cval_of hv, f⟩

end Go.Proofs.YtmmchhlfbhbigaaDoor

namespace Go.Proofs.YtmmchhlfbhbigaaDoor
set_option maxRecDepth 100000
open Go.RowKit

theorem run_frombits (n : Int) (w : World) : (callFunc 164 #[.int .u64 n]).run Tryd.prog w = .ok (.value (.float .f64 n.toNat)) w := by
  rw [run_callFunc_extern (fn := Tryd.f164) (e := Extern.MathFloatBits.float64frombits) (by kernel_rfl) (by kernel_rfl) (by kernel_rfl) (by kernel_rfl) (by kernel_rfl)]
  rfl

theorem run_tobits (n : Nat) (w : World) : (callFunc 166 #[.float .f64 n]).run Tryd.prog w = .ok (.value (.int .u64 (n : Int))) w := by
  rw [run_callFunc_extern (fn := Tryd.f166) (e := Extern.MathFloatBits.float64bits) (by kernel_rfl) (by kernel_rfl) (by kernel_rfl) (by kernel_rfl) (by kernel_rfl)]
  rfl

theorem float_any (a : Int) (w : World) :
    Calls Tryd.prog 158 #[.int .i64 a] w fun e w' => e = .returned (.float .f64 (ub a)) ∧ w = w' := by
  have h1 := run_frombits (IntKind.u64.wrap a)
  go_enter Tryd.func158, Tryd.ntmps158
  go_wp2
  go_ret
  exact ⟨rfl, rfl⟩

theorem isnan_any (b : Nat) (w : World) :
    Calls Tryd.prog 159 #[.float .f64 b] w fun e w' => e = .returned (.bool (rnan b)) ∧ w = w' := by
  go_enter Tryd.func159, Tryd.ntmps159
  go_wp2
  go_ret
  exact ⟨rfl, rfl⟩

theorem bits_any (b : Nat) (w : World) :
    Calls Tryd.prog 161 #[.float .f64 b] w fun e w' => e = .returned (.int .i64 (RBits b)) ∧ w = w' := by
  have h1 := run_tobits b
  unfold RBits
  rcases hn : rnan b with _ | _
  all_goals
    go_enter Tryd.func161, Tryd.ntmps161
    go_wp2_with (go_at_call 159; refine (isnan_any b _).mono ?_; rintro e w' ⟨rfl, rfl⟩)
    go_ret
    exact ⟨rfl, rfl⟩

theorem canon_any (a : Int) (w : World) :
    Calls Tryd.prog 149 #[.int .i64 a] w fun e w' => e = .returned (.int .i64 (RCanon a)) ∧ w = w' := by
  go_enter Tryd.func149, Tryd.ntmps149
  go_wp2_with (first | (go_at_call 158; refine (float_any _ _).mono ?_; rintro e w' ⟨rfl, rfl⟩) | (go_at_call 161; refine (bits_any _ _).mono ?_; rintro e w' ⟨rfl, rfl⟩))
  go_ret
  exact ⟨rfl, rfl⟩

theorem cmpnan_any (b : Nat) (w : World) :
    Calls Tryd.prog 165 #[.float .f64 b] w fun e w' => e = .returned (.bool (rnan b)) ∧ w = w' := by
  go_enter Tryd.func165, Tryd.ntmps165
  go_wp2
  go_ret
  exact ⟨rfl, rfl⟩

theorem fcmp_any (x y : Nat) (hx : rnan x = false) (hy : rnan y = false) (w : World) :
    Calls Tryd.prog 160 #[.float .f64 x, .float .f64 y] w fun e w' => e = .returned (.int .i64 (fcmp x y)) ∧ w = w' := by
  unfold fcmp
  have e1 : FloatKind.f64.format = Ieee.double := rfl
  rcases h : Ieee.double.order x y with _ | (_ | _ | _)
  all_goals
    go_enter Tryd.func160, Tryd.ntmps160
    go_wp2_with (go_at_call 165; refine (cmpnan_any _ _).mono ?_; rintro e w' ⟨rfl, rfl⟩)
    go_ret
    exact ⟨rfl, rfl⟩

theorem order_any (a b : Int) (w : World) :
    Calls Tryd.prog 148 #[.int .i64 a, .int .i64 b] w fun e w' => e = .returned (.int .i64 (ROrder a b)) ∧ w = w' := by
  unfold ROrder forder
  rcases hx : rnan (ub a) <;> rcases hy : rnan (ub b)
  all_goals
    go_enter Tryd.func148, Tryd.ntmps148
    go_wp2_with (first | (go_at_call 158; refine (float_any _ _).mono ?_; rintro e w' ⟨rfl, rfl⟩) | (go_at_call 159; refine (isnan_any _ _).mono ?_; rintro e w' ⟨rfl, rfl⟩) | (go_at_call 160; refine (fcmp_any _ _ hx hy _).mono ?_; rintro e w' ⟨rfl, rfl⟩))
    go_ret
    exact ⟨rfl, rfl⟩

end Go.Proofs.YtmmchhlfbhbigaaDoor

namespace Go.Proofs.YtmmchhlfbhbigaaDoor
set_option maxRecDepth 100000
open Go.RowKit

end Go.Proofs.YtmmchhlfbhbigaaDoor
