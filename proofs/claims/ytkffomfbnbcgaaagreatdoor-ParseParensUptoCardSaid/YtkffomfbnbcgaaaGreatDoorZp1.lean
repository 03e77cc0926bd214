/-
  Texts of mine put together, in build order.
  Conditions: as each declaration says.
-/
import Derived.Test.YtkffomfbnbcgaaaGreatDoorRows
import Derived.WalkKit
import Derived.Lib.Hide
import Derived.Below
import Derived.OwnWalk
import Derived.Laws.AppendOwn
import Derived.Laws.OwnMore
import Derived.Deep.AppendLies
import Derived.Deep.DeepMust
import Derived.Laws.BytesArg
import Derived.Lib.SmallJoins
import Derived.Laws.FloatArith
import Derived.WalkLawsBesides
import Derived.Laws.Bits64b
import Derived.Laws.Externs
import Derived.Deep.DeepCutAuto
import Derived.Deep.QuietTactic
import Derived.BigQuiet
import Derived.Maps.Range
import Derived.Shelf.Abstract
namespace Go.Proofs.YtkffomfbnbcgaaaGreatDoor
set_option maxRecDepth 100000
open Go.RowKit

theorem bcell {W w1 : World} (hb : Below W.heap.size W w1) : (∀ b o, b < W.heap.size → w1.cell? ⟨b, o, none⟩ = W.cell? ⟨b, o, none⟩) ∧ (∀ b o, b < W.heap.size → w1.frozen? ⟨b, o, none⟩ = W.frozen? ⟨b, o, none⟩) :=
  ⟨fun b o h => hb.cell (p := ⟨b, o, none⟩) h, fun b o h => hb.frozen (p := ⟨b, o, none⟩) h⟩

theorem same' {P : Program} {f : FuncId} {args : Array Value} {w : World} {v : Value} (h : Calls P f args w fun e w' => e = .returned v ∧ w = w') : Calls P f args w fun e w' => e = .returned v ∧ w' = w :=
  h.mono fun _ _ ⟨a, b⟩ => ⟨a, b.symm⟩

end Go.Proofs.YtkffomfbnbcgaaaGreatDoor

namespace Go.Proofs.YtkffomfbnbcgaaaGreatDoor
set_option maxRecDepth 100000
open Go.RowKit Go.Joins Go.ChangeShapes Go.WideShapes
set_option linter.unusedVariables false

theorem infoB : (Tryz.prog.info? 5).map (fun i => (i.zero, i.size, i.bytes)) = some (some (.int .u8 0), 1, 1) := by kernel_rfl

/-- the cells of a list of bytes -/
def bcells (l : List Nat) : List Value := l.map fun n : Nat => .int .u8 (n : Int)
theorem bcells_length (l : List Nat) : (bcells l).length = l.length := by simp [bcells]
theorem bcells_app (l r : List Nat) : bcells (l ++ r) = bcells l ++ bcells r := List.map_append
theorem bcells_one (l : List Nat) : ∀ u ∈ bcells l, u.oneCell' = true := by
  intro u hu
  obtain ⟨n, -, rfl⟩ := List.mem_map.1 hu
  rfl

/-- a slice of bytes that the call has made, from block 'base' on -/
def OwB (w : World) (base : Nat) (v : Value) (l : List Nat) : Prop := w.ownsRow base 5 1 v l.length (bcells l) ∧ v ≠ .slice none 0 0

theorem OwB.form {w : World} {base : Nat} {v : Value} {l : List Nat} (h : OwB w base v l) : ∃ g cap, v = .slice (some ⟨g, 0, none⟩) l.length cap ∧ base ≤ g ∧ g < w.heap.size ∧ ∀ j u, (bcells l)[j]? = some u → w.cell? ⟨g, j, none⟩ = some u := by
  obtain ⟨⟨h1, h2⟩, h3⟩ := h
  rcases h2 with ⟨e, _⟩ | ⟨g, cap, cur, e, hb, hg, hn, hc, hs, ht⟩
  · exact absurd e h3
  · refine ⟨g, cap, e, hb, (Array.getElem?_eq_some_iff.1 hg).1, fun j u hj => ?_⟩
    rw [cell_of_block hg j]
    rw [← ht, List.getElem?_take] at hj
    split at hj
    · rw [← Array.getElem?_toList]; exact hj
    · cases hj
theorem OwB.lt {w : World} {base : Nat} {v : Value} {l : List Nat} (h : OwB w base v l) : ∀ k, v.ownBlock = some k → base ≤ k ∧ k < w.heap.size := fun k hk => h.1.lt k hk
theorem OwB.alloc {w : World} {base : Nat} {v : Value} {l : List Nat} (h : OwB w base v l) (o : Obj) : OwB (w.alloc o) base v l := ⟨h.1.alloc o, h.2⟩
theorem OwB.below {w w' : World} {base : Nat} {v : Value} {l : List Nat} (h : OwB w base v l) (hb : Below w.heap.size w w') : OwB w' base v l :=
  ⟨h.1.kept (row := none) ⟨hb.os, hb.tape, hb.output, hb.size, fun i hi _ => hb.block i hi⟩ (by cases v.ownBlock <;> simp), h.2⟩
theorem OwB.le {w : World} {base base' : Nat} {v : Value} {l : List Nat} (h : OwB w base v l) (hb : base' ≤ base) : OwB w base' v l := ⟨ownsRow_le h.1 hb, h.2⟩

theorem own_ne {w : World} {base : Nat} {e : TypeId} {size : Nat} {v : Value} {n : Nat} {xs : List Value} {g : Nat} {cs : Array Value} {ty : TypeId} {fz : Nat × Nat} (h : w.ownsRow base e size v n xs) (hg : w.heap[g]? = some (.cells cs ty fz)) (hne : ty ≠ e) : v.ownBlock ≠ some g := by
  rcases h.2 with ⟨rfl, _⟩ | ⟨g', cap, cur, rfl, _, hg', _⟩
  · simp [Value.ownBlock]
  · intro hx
    simp only [Value.ownBlock, Option.some.injEq] at hx
    subst hx
    rw [hg] at hg'
    injection hg' with hg'
    injection hg' with _ h2 _
    exact hne h2

/-- append onto a slice of bytes of the call's own -/
theorem wp_push {ops : Array Oper} {rest : List Oper} {o : Oper} {a : Act} {w : World} {Q : Exit → Act → World → Prop} (hgd : o.guard = none) (s x : Operand)
    (ho : o.op = .call { callee := .builtin .append, args := #[s, x], argTypes := #[45, 45] })
    (base : Nat) (v : Value) (l : List Nat) (hs : a.eval s = v) (hown : OwB w base v l) (ad : Addr) (m c : Nat) (r : List Nat) (hx : a.eval x = .slice (some ad) m c) (hm : r.length = m)
    (hnews : ∀ j u, (bcells r)[j]? = some u → w.cell? (ad.add j) = some u) (hsz : l.length + m ≤ 70368744177664) (hbase : base ≤ w.heap.size)
    (h : ∀ v' w', OwB w' base v' (l ++ r) → w.grownBy w' v.ownBlock → wpList Tryz.prog ops Q rest (a.put o.dst v') w') : wpList Tryz.prog ops Q (o :: rest) a w := by
  obtain ⟨i0, hi, hz0, hz1, hz2⟩ := info_parts infoB
  refine wpList_append_own w hgd s x _ ho base 5 i0 _ 1 1 Tryz.underlying45 hi hz0 hz1 hz2 rfl (by decide) v l.length (bcells l) hs hown.1 ad m c (bcells r) hx (by rw [bcells_length, hm, Nat.mul_one]) hnews (bcells_one r) (by unfold maxLen; omega) (by omega) hbase ?_
  intro v' w' h1 h2 h3
  refine h v' w' ⟨?_, fun e => hown.2 (h3.1 e).1⟩ h2
  rw [bcells_app, List.length_append, hm]
  exact h1

/-- one byte, two bytes that were just put together -/
theorem news1 (w : World) (x : Nat) : ∀ j u, (bcells [x])[j]? = some u → (w.alloc (.cells #[.int .u8 (x : Int)] 5)).cell? ((⟨w.heap.size, 0, none⟩ : Addr).add j) = some u :=
  World.news_of_block (cs := #[.int .u8 (x : Int)]) (heap_alloc_new w _)
theorem news2 (w : World) (x y : Nat) : ∀ j u, (bcells [x, y])[j]? = some u → (w.alloc (.cells #[.int .u8 (x : Int), .int .u8 (y : Int)] 5)).cell? ((⟨w.heap.size, 0, none⟩ : Addr).add j) = some u :=
  World.news_of_block (cs := #[.int .u8 (x : Int), .int .u8 (y : Int)]) (heap_alloc_new w _)
theorem news1' (w : World) (x : Nat) (z : Int) (hz : z = (x : Int)) : ∀ j u, (bcells [x])[j]? = some u → (w.alloc (.cells #[.int .u8 z] 5)).cell? ((⟨w.heap.size, 0, none⟩ : Addr).add j) = some u := by
  subst hz
  exact news1 w x
theorem add0 (g j : Nat) : (⟨g, 0, none⟩ : Addr).add j = ⟨g, j, none⟩ := by unfold Addr.add; split <;> simp_all

/-- the state of a loop that writes bytes: what was there stays, the bytes so far -/
structure En (W w : World) (B : Nat) (v : Value) (l : List Nat) : Prop where
  own : OwB w B v l
  bel : Below B W w
  sz : B ≤ w.heap.size
theorem En.alloc {W w : World} {B : Nat} {v : Value} {l : List Nat} (h : En W w B v l) (o : Obj) : En W (w.alloc o) B v l := ⟨h.own.alloc o, h.bel.alloc h.sz o, by simp; exact Nat.le_succ_of_le h.sz⟩
theorem En.step {W w w' : World} {B : Nat} {v : Value} {l : List Nat} (h : En W w B v l) (hb : Below w.heap.size w w') : En W w' B v l := ⟨h.own.below hb, h.bel.trans (hb.mono h.sz), Nat.le_trans h.sz hb.size⟩
theorem En.push {W w w' : World} {B : Nat} {v v' : Value} {l l' : List Nat} (h : En W w B v l) (ho : OwB w' B v' l') (hg : w.grownBy w' v.ownBlock) : En W w' B v' l' :=
  ⟨ho, h.bel.grown hg h.sz (fun k hk => (h.own.lt k hk).1), Nat.le_trans h.sz hg.size⟩

/-- the text of a list of bytes -/
def strB (l : List Nat) : ByteArray := strOfNums (l.map fun n : Nat => (n : Int))
theorem str_own {w : World} {base : Nat} {v : Value} {l : List Nat} (h : OwB w base v l) : (convert 45 9 v).run Tryz.prog w = .ok (.string (strB l)) w := by
  obtain ⟨g, cap, rfl, -, -, hc⟩ := h.form
  refine run_convert_bytes_arg w 45 5 Tryz.underlying45 Tryz.underlying5 g 0 l.length cap (l.map fun n : Nat => (n : Int)) (by simp) (fun i hi => ?_) 9 Tryz.underlying9
  rw [Nat.zero_add]
  refine hc i _ ?_
  simp only [bcells, List.getElem?_map]
  rw [List.getElem?_eq_getElem hi]
  simp [List.getD_eq_getElem?_getD, List.getElem?_map, List.getElem?_eq_getElem hi]

/-- a text's bytes -/
def sl (s : ByteArray) : List Nat := s.data.toList.map fun b => b.toNat
theorem sl_length (s : ByteArray) : (sl s).length = s.size := by
  unfold sl
  rw [List.length_map, Array.length_toList]
  rfl
theorem sl_lt (s : ByteArray) : ∀ x ∈ sl s, x < 256 := by
  intro x hx
  obtain ⟨b, -, rfl⟩ := List.mem_map.1 hx
  exact b.toNat_lt
theorem strB_data (l : List Nat) : (strB l).data.toList = l.map fun n => UInt8.ofNat n := by
  unfold strB
  rw [strOfNums_data]
  simp
theorem sl_strB {l : List Nat} (h : ∀ x ∈ l, x < 256) : sl (strB l) = l := by
  unfold sl
  rw [strB_data, List.map_map]
  conv => rhs; rw [← List.map_id l]
  refine List.map_congr_left fun x hx => ?_
  simp only [Function.comp, id]
  rw [UInt8.toNat_ofNat']
  exact Nat.mod_eq_of_lt (h x hx)
theorem strB_sl (s : ByteArray) : strB (sl s) = s := by
  have h : (strB (sl s)).data.toList = s.data.toList := by
    rw [strB_data]
    unfold sl
    rw [List.map_map]
    conv => rhs; rw [← List.map_id s.data.toList]
    refine List.map_congr_left fun x hx => ?_
    simp
  have h2 : (strB (sl s)).data = s.data := Array.toList_inj.1 h
  cases hs : strB (sl s) with
  | mk d => rw [hs] at h2; cases s with | mk e => simp at h2; rw [h2]
theorem strB_inj {l r : List Nat} (hl : ∀ x ∈ l, x < 256) (hr : ∀ x ∈ r, x < 256) (h : strB l = strB r) : l = r := by
  rw [← sl_strB hl, ← sl_strB hr, h]

end Go.Proofs.YtkffomfbnbcgaaaGreatDoor

namespace Go.Proofs.YtkffomfbnbcgaaaGreatDoor
set_option maxRecDepth 100000
open Ieee

def rnan (b : Nat) : Bool := double.order b b != some .eq
def sg (b : Nat) : Bool := b / 9223372036854775808 % 2 == 1
def rg (b : Nat) : Nat := b % 9223372036854775808
def INF : Nat := 9218868437227405312
def M (r : Nat) : Nat := if r < 4503599627370496 then r else 4503599627370496 + r % 4503599627370496
def E (r : Nat) : Nat := r / 4503599627370496 - 1
def V (r : Nat) : Nat := M r * 2 ^ E r

theorem read_num (b : Nat) (h : rg b < INF) : double.read b = .number (sg b) (M (rg b)) (-1074 + (E (rg b) : Nat)) := by
  unfold Format.read
  have e1 : double.signWeight = 9223372036854775808 := by decide
  have e2 : double.binade = 4503599627370496 := by decide
  have e3 : double.infRung = 9218868437227405312 := by decide
  have e4 : double.leastPlace = -1074 := by decide
  rw [e1, e2, e3, e4]
  dsimp only
  change rg b < 9218868437227405312 at h
  change (if rg b < 4503599627370496 then Datum.number (sg b) (rg b) (-1074) else if rg b < 9218868437227405312 then Datum.number (sg b) (4503599627370496 + rg b % 4503599627370496) (-1074 + ((rg b / 4503599627370496 - 1 : Nat) : Int)) else _) = _
  unfold M E
  by_cases c : rg b < 4503599627370496
  · rw [if_pos c, if_pos c, Nat.div_eq_of_lt c]; rfl
  · rw [if_neg c, if_neg c, if_pos h]

theorem read_inf (b : Nat) (h : rg b = INF) : double.read b = .infinity (sg b) := by
  unfold Format.read
  have e1 : double.signWeight = 9223372036854775808 := by decide
  have e2 : double.binade = 4503599627370496 := by decide
  have e3 : double.infRung = 9218868437227405312 := by decide
  rw [e1, e2, e3]
  dsimp only
  change rg b = 9218868437227405312 at h
  change (if rg b < 4503599627370496 then _ else if rg b < 9218868437227405312 then _ else if rg b = 9218868437227405312 then Datum.infinity (sg b) else _) = _
  rw [if_neg (by omega), if_neg (by omega), if_pos h]

theorem read_nan (b : Nat) (h : INF < rg b) : ∃ n f, double.read b = .nan n f := by
  unfold Format.read
  have e1 : double.signWeight = 9223372036854775808 := by decide
  have e2 : double.binade = 4503599627370496 := by decide
  have e3 : double.infRung = 9218868437227405312 := by decide
  rw [e1, e2, e3]
  dsimp only
  change 9218868437227405312 < rg b at h
  change ∃ n f, (if rg b < 4503599627370496 then _ else if rg b < 9218868437227405312 then _ else if rg b = 9218868437227405312 then _ else Datum.nan (sg b) (rg b - 9218868437227405312)) = _
  rw [if_neg (by omega), if_neg (by omega), if_neg (by omega)]
  exact ⟨_, _, rfl⟩

theorem M_lt (r : Nat) : M r < 9007199254740992 := by unfold M; split <;> omega

theorem V_succ (r : Nat) : V r < V (r + 1) := by
  unfold V M E
  by_cases c : r + 1 < 4503599627370496
  · rw [if_pos (by omega), if_pos c, Nat.div_eq_of_lt (by omega), Nat.div_eq_of_lt c]; simp
  · by_cases c2 : r + 1 = 4503599627370496
    · obtain rfl : r = 4503599627370495 := by omega
      decide
    · rw [if_neg (by omega), if_neg c]
      by_cases c3 : r % 4503599627370496 + 1 < 4503599627370496
      · have h1 : (r + 1) / 4503599627370496 = r / 4503599627370496 := by omega
        have h2 : (r + 1) % 4503599627370496 = r % 4503599627370496 + 1 := by omega
        rw [h1, h2]
        exact Nat.mul_lt_mul_of_pos_right (by omega) (Nat.two_pow_pos _)
      · have h1 : (r + 1) / 4503599627370496 - 1 = (r / 4503599627370496 - 1) + 1 := by omega
        have h2 : (r + 1) % 4503599627370496 = 0 := by omega
        rw [h1, h2, Nat.pow_succ, Nat.mul_comm (2 ^ _) 2, ← Nat.mul_assoc]
        exact Nat.mul_lt_mul_of_pos_right (by omega) (Nat.two_pow_pos _)

theorem V_mono {r q : Nat} (h : r < q) : V r < V q := by
  induction q with
  | zero => omega
  | succ q ih =>
    by_cases c : r = q
    · subst c; exact V_succ _
    · exact Nat.lt_trans (ih (by omega)) (V_succ _)

theorem V_zero : V 0 = 0 := by decide

/-- a word's place in the order: its rung, with the sign -/
def pl (b : Nat) : Int := if sg b then -(rg b : Int) else (rg b : Int)

def sV (s : Bool) (r : Nat) : Int := if s then -(V r : Int) else (V r : Int)

theorem sV_lt (s t : Bool) (r q : Nat) : sV s r < sV t q ↔ (if s then -(r : Int) else r) < (if t then -(q : Int) else q) := by
  have z := V_zero
  have hr : r = 0 ∨ (0 < V r ∧ 0 < r) := by
    by_cases c : r = 0
    · exact .inl c
    · right; have := V_mono (r := 0) (q := r) (by omega); exact ⟨by omega, by omega⟩
  have hq : q = 0 ∨ (0 < V q ∧ 0 < q) := by
    by_cases c : q = 0
    · exact .inl c
    · right; have := V_mono (r := 0) (q := q) (by omega); exact ⟨by omega, by omega⟩
  rcases Nat.lt_trichotomy r q with c | c | c
  · have := V_mono c
    cases s <;> cases t <;> simp [sV] <;> omega
  · subst c
    rcases hr with rfl | hr
    · cases s <;> cases t <;> simp [sV, z]
    · cases s <;> cases t <;> simp [sV] <;> omega
  · have := V_mono c
    cases s <;> cases t <;> simp [sV] <;> omega

theorem sV_eq (s t : Bool) (r q : Nat) : sV s r = sV t q ↔ (if s then -(r : Int) else (r : Int)) = (if t then -(q : Int) else q) := by
  have h1 := sV_lt s t r q
  have h2 := sV_lt t s q r
  omega

theorem signed_shift (s : Bool) (m u k : Nat) : signed s m u * (2 ^ k : Nat) = signed s m (u + k) := by
  unfold signed
  have : m <<< (u + k) = m <<< u * 2 ^ k := by rw [Nat.shiftLeft_eq, Nat.shiftLeft_eq, Nat.pow_add, Nat.mul_assoc]
  rw [this]
  cases s <;> simp [Int.neg_mul]

theorem signed_V (s : Bool) (r : Nat) : signed s (M r) (E r) = sV s r := by
  unfold signed sV V
  rw [Nat.shiftLeft_eq]

theorem compare_scaled (a b : Int) (k : Nat) : compare a b = compare (a * (2 ^ k : Nat)) (b * (2 ^ k : Nat)) := by
  have hk : (0 : Int) < ((2 ^ k : Nat) : Int) := by have := Nat.two_pow_pos k; omega
  simp only [compare, compareOfLessAndEq]
  have h1 : a < b ↔ a * ((2 ^ k : Nat) : Int) < b * ((2 ^ k : Nat) : Int) := (Int.mul_lt_mul_right hk).symm
  have h2 : a = b ↔ a * ((2 ^ k : Nat) : Int) = b * ((2 ^ k : Nat) : Int) := ⟨fun h => by rw [h], fun h => Int.eq_of_mul_eq_mul_right (by omega) h⟩
  simp only [h1, h2]

theorem compare_sV (s t : Bool) (r q : Nat) : compare (sV s r) (sV t q) = compare (if s then -(r : Int) else (r : Int)) (if t then -(q : Int) else q) := by
  simp only [compare, compareOfLessAndEq, sV_lt, sV_eq]

theorem cmp_lt {a b : Int} (h : a < b) : compare a b = .lt := by simp [compare, compareOfLessAndEq, h]
theorem cmp_gt {a b : Int} (h : b < a) : compare a b = .gt := by
  have h1 : ¬ a < b := by omega
  have h2 : ¬ a = b := by omega
  simp [compare, compareOfLessAndEq, h1, h2]
theorem cmp_eq {a b : Int} (h : a = b) : compare a b = .eq := by subst h; simp [compare, compareOfLessAndEq]

theorem order_pl (x y : Nat) (hx : rg x ≤ INF) (hy : rg y ≤ INF) : double.order x y = some (compare (pl x) (pl y)) := by
  unfold Format.order
  by_cases cx : rg x = INF
  · rw [read_inf x cx]
    by_cases cy : rg y = INF
    · rw [read_inf y cy]
      unfold Datum.order pl
      rw [cx, cy]
      cases sg x <;> cases sg y <;> decide
    · rw [read_num y (by omega)]
      unfold Datum.order pl
      rw [cx]
      have hy' : (rg y : Int) < INF := by omega
      have hy0 : (0 : Int) ≤ rg y := by omega
      unfold INF at *
      cases sg x <;> cases sg y <;> first | (rw [cmp_lt (by simp; omega)]; rfl) | (rw [cmp_gt (by simp; omega)]; rfl)
  · rw [read_num x (by omega)]
    by_cases cy : rg y = INF
    · rw [read_inf y cy]
      unfold Datum.order pl
      rw [cy]
      have hy' : (rg x : Int) < INF := by omega
      have hy0 : (0 : Int) ≤ rg x := by omega
      unfold INF at *
      cases sg x <;> cases sg y <;> first | (rw [cmp_lt (by simp; omega)]; rfl) | (rw [cmp_gt (by simp; omega)]; rfl)
    · rw [read_num y (by omega)]
      unfold Datum.order
      dsimp only
      generalize hb : min (-1074 + (E (rg x) : Int)) (-1074 + (E (rg y) : Int)) = base
      rw [compare_scaled _ _ (base + 1074).toNat, signed_shift, signed_shift]
      have e1 : (-1074 + (E (rg x) : Int) - base).toNat + (base + 1074).toNat = E (rg x) := by omega
      have e2 : (-1074 + (E (rg y) : Int) - base).toNat + (base + 1074).toNat = E (rg y) := by omega
      rw [e1, e2, signed_V, signed_V, compare_sV]
      rfl

theorem order_nan (x y : Nat) (h : INF < rg x ∨ INF < rg y) : double.order x y = none := by
  unfold Format.order
  rcases h with h | h
  · obtain ⟨n, f, e⟩ := read_nan x h
    rw [e]; rfl
  · obtain ⟨n, f, e⟩ := read_nan y h
    rw [e]
    cases double.read x <;> rfl

theorem rnan_iff (b : Nat) : rnan b = decide (INF < rg b) := by
  unfold rnan
  by_cases h : INF < rg b
  · rw [order_nan b b (.inl h)]; simp [h]
  · rw [order_pl b b (by omega) (by omega)]; simp [h, compare, compareOfLessAndEq]

theorem log2_eq {n k : Nat} (h1 : 2 ^ k ≤ n) (h2 : n < 2 ^ (k + 1)) : n.log2 = k := by
  have hn : n ≠ 0 := by have := Nat.two_pow_pos k; omega
  have a := (Nat.le_log2 hn).2 h1
  have b := (Nat.log2_lt hn).2 h2
  omega

theorem log2_bounds {n : Nat} (hn : n ≠ 0) : 2 ^ n.log2 ≤ n ∧ n < 2 ^ (n.log2 + 1) :=
  ⟨(Nat.le_log2 hn).1 (Nat.le_refl _), (Nat.log2_lt hn).1 (Nat.lt_succ_self _)⟩

theorem log2_shift {n : Nat} (k : Nat) (hn : n ≠ 0) : (n * 2 ^ k).log2 = n.log2 + k := by
  obtain ⟨a, b⟩ := log2_bounds hn
  refine log2_eq ?_ ?_
  · rw [Nat.pow_add]; exact Nat.mul_le_mul_right _ a
  · rw [show n.log2 + k + 1 = (n.log2 + 1) + k from by omega, Nat.pow_add]
    exact Nat.mul_lt_mul_of_pos_right b (Nat.two_pow_pos _)

theorem cut_exact (way : Toward) (s : Bool) (m k : Nat) (hm : m ≠ 0) : way.cut s (m * 2 ^ k) k = m := by
  unfold Toward.cut
  have h1 : min k ((m * 2 ^ k).log2 + 2) = k := by rw [log2_shift k hm]; omega
  have h2 : m * 2 ^ k / 2 ^ k = m := Nat.mul_div_cancel _ (Nat.two_pow_pos _)
  have h3 : m * 2 ^ k % 2 ^ k = 0 := Nat.mul_mod_left _ _
  have h4 : 0 < 2 ^ k := Nat.two_pow_pos _
  dsimp only
  rw [h1, Nat.shiftLeft_eq, Nat.one_mul, h2, h3]
  cases way <;> simp

theorem word_sr (s : Bool) (r : Nat) : double.word s r = (if s then 9223372036854775808 else 0) + r := by
  unfold Format.word
  have e1 : double.signWeight = 9223372036854775808 := by decide
  rw [e1]
  cases s <;> simp

theorem word_eq (b : Nat) (h : b < 18446744073709551616) : double.word (sg b) (rg b) = b := by
  rw [word_sr]
  unfold sg rg
  by_cases c : b / 9223372036854775808 % 2 = 1 <;> simp [c] <;> omega

theorem sg_word (s : Bool) (r : Nat) (h : r < 9223372036854775808) : sg (double.word s r) = s := by
  rw [word_sr]
  unfold sg
  cases s <;> simp <;> omega

theorem rg_word (s : Bool) (r : Nat) (h : r < 9223372036854775808) : rg (double.word s r) = r := by
  rw [word_sr]
  unfold rg
  cases s <;> simp <;> omega

theorem M_zero {r : Nat} : M r = 0 ↔ r = 0 := by
  unfold M
  split <;> omega

theorem log2_M_sub {r : Nat} (h : r < 4503599627370496) (h0 : r ≠ 0) : (M r).log2 < 52 := by
  unfold M
  rw [if_pos h]
  exact (Nat.log2_lt h0).2 (by omega)

theorem log2_M_norm {r : Nat} (h : ¬ r < 4503599627370496) : (M r).log2 = 52 := by
  unfold M
  rw [if_neg h]
  exact log2_eq (by omega) (by omega)

theorem rung_split {r : Nat} (h : 4503599627370496 ≤ r) : E r * 4503599627370496 + M r = r := by
  unfold E M
  rw [if_neg (by omega)]
  have h1 := Nat.div_add_mod r 4503599627370496
  have h2 : 1 ≤ r / 4503599627370496 := by omega
  generalize r / 4503599627370496 = q at *
  generalize r % 4503599627370496 = m at *
  omega

theorem nearest_exact (s : Bool) (r k : Nat) (h : r < INF) : double.nearest s (M r * 2 ^ k) (-1074 + (E r : Nat) - k) = double.word s r := by
  unfold Format.nearest
  have e1 : double.fractionBits = 52 := rfl
  have e2 : double.binade = 4503599627370496 := by decide
  have e3 : double.infRung = 9218868437227405312 := by decide
  have e4 : double.leastPlace = -1074 := by decide
  by_cases c : r = 0
  · subst c; rw [if_pos (by rw [M_zero.2 rfl, Nat.zero_mul])]
  · have hM : M r ≠ 0 := fun e => c (M_zero.1 e)
    have hk : M r * 2 ^ k ≠ 0 := Nat.mul_ne_zero hM (by have := Nat.two_pow_pos k; omega)
    rw [if_neg hk]
    dsimp only
    rw [e1, e2, e3, e4, log2_shift k hM]
    unfold INF at h
    by_cases d : r < 4503599627370496
    · have hl := log2_M_sub d c
      have hE : E r = 0 := by unfold E; omega
      have h1 : max (-1074 + (E r : Int) - k + ((M r).log2 + k : Nat) - (52 : Nat)) (-1074) = -1074 := by omega
      rw [h1]
      have h2 : (-1074 + (E r : Int) - k - -1074).toNat = 0 := by omega
      have h3 : (-1074 - (-1074 + (E r : Int) - k)).toNat = k := by omega
      have h4 : (-1074 - -1074 : Int).toNat = 0 := by omega
      rw [h2, h3, h4, Nat.shiftLeft_zero, cut_exact _ _ _ _ hM]
      rw [Nat.zero_mul, Nat.zero_add, show M r = r from by unfold M; exact if_pos d, Nat.min_eq_left (by omega)]
    · have hl := log2_M_norm d
      have hE : (E r : Int) = r / 4503599627370496 - 1 := by unfold E; omega
      have h1 : max (-1074 + (E r : Int) - k + ((M r).log2 + k : Nat) - (52 : Nat)) (-1074) = -1074 + E r := by omega
      rw [h1]
      have h2 : (-1074 + (E r : Int) - k - (-1074 + (E r : Int))).toNat = 0 := by omega
      have h3 : (-1074 + (E r : Int) - (-1074 + (E r : Int) - k)).toNat = k := by omega
      have h4 : (-1074 + (E r : Int) - -1074).toNat = E r := by omega
      rw [h2, h3, h4, Nat.shiftLeft_zero, cut_exact _ _ _ _ hM]
      rw [rung_split (by omega), Nat.min_eq_left (by omega)]

theorem sum_comm (x y : Datum) : x.sum y = y.sum x := by
  cases x <;> cases y <;> simp only [Datum.sum]
  · rename_i s m i t n j
    rw [Int.min_comm i j, Int.add_comm (signed s _ _), Bool.and_comm s t]
  · rename_i s t
    by_cases h : s = t
    · subst h; rfl
    · rw [if_neg h, if_neg (fun e => h e.symm)]

theorem product_comm (x y : Datum) : x.product y = y.product x := by
  cases x <;> cases y <;> simp only [Datum.product]
  · rename_i s m i t n j
    rw [Bool.xor_comm, Nat.mul_comm, Int.add_comm]
  · rename_i s t
    rw [Bool.xor_comm]

theorem add_comm' (x y : Nat) : double.add x y = double.add y x := by
  unfold Format.add; rw [sum_comm]

theorem mul_comm' (x y : Nat) : double.mul x y = double.mul y x := by
  unfold Format.mul; rw [product_comm]

/-- the word with the other sign -/
def ng (b : Nat) : Nat := b ^^^ 2 ^ 63

theorem ng_eq (b : Nat) (h : b < 18446744073709551616) : ng b = if b < 9223372036854775808 then b + 9223372036854775808 else b - 9223372036854775808 := by
  unfold ng
  have e : b = (b / 2 ^ 63) * 2 ^ 63 + b % 2 ^ 63 := by omega
  have hlt : b % 2 ^ 63 < 2 ^ 63 := Nat.mod_lt _ (by decide)
  have hx : b ^^^ 2 ^ 63 = ((b / 2 ^ 63) ^^^ 1) * 2 ^ 63 + b % 2 ^ 63 := by
    apply Nat.eq_of_testBit_eq
    intro i
    rw [Nat.testBit_xor, Nat.testBit_two_pow, Nat.mul_comm, Nat.testBit_two_pow_mul_add _ hlt, Nat.testBit_xor, Nat.testBit_div_two_pow, Nat.testBit_mod_two_pow]
    by_cases c : i < 63
    · have : ¬ 63 = i := by omega
      simp [c, this]
    · rw [if_neg c, show i - 63 + 63 = i from by omega, show (1 : Nat) = 2 ^ 0 from rfl, Nat.testBit_two_pow]
      have : (0 = i - 63) = (63 = i) := propext ⟨fun _ => by omega, fun _ => by omega⟩
      simp only [this]
  rw [hx]
  by_cases c : b < 9223372036854775808
  · rw [if_pos c, show b / 2 ^ 63 = 0 from by omega, show (0 ^^^ 1 : Nat) = 1 from rfl]; omega
  · rw [if_neg c, show b / 2 ^ 63 = 1 from by omega, show (1 ^^^ 1 : Nat) = 0 from rfl]; omega

theorem sg_ng (b : Nat) (h : b < 18446744073709551616) : sg (ng b) = !sg b := by
  rw [ng_eq b h]
  unfold sg
  by_cases c : b < 9223372036854775808
  · rw [if_pos c, show b / 9223372036854775808 = 0 from by omega, show (b + 9223372036854775808) / 9223372036854775808 = 1 from by omega]; rfl
  · rw [if_neg c, show b / 9223372036854775808 = 1 from by omega, show (b - 9223372036854775808) / 9223372036854775808 = 0 from by omega]; rfl

theorem rg_ng (b : Nat) (h : b < 18446744073709551616) : rg (ng b) = rg b := by
  rw [ng_eq b h]
  unfold rg
  by_cases c : b < 9223372036854775808
  · rw [if_pos c]; omega
  · rw [if_neg c]; omega

theorem ng_lt (b : Nat) (h : b < 18446744073709551616) : ng b < 18446744073709551616 := by
  rw [ng_eq b h]; split <;> omega

theorem ng_ng (b : Nat) : ng (ng b) = b := by unfold ng; rw [Nat.xor_assoc, Nat.xor_self, Nat.xor_zero]

theorem rg_trichotomy (b : Nat) : rg b < INF ∨ rg b = INF ∨ INF < rg b := Nat.lt_trichotomy _ _

theorem sub_add (x y : Nat) (hy : y < 18446744073709551616) : double.sub x y = double.add x (ng y) := by
  unfold Format.sub Format.add
  rcases rg_trichotomy y with h | h | h
  · rw [read_num y h, read_num (ng y) (by rw [rg_ng y hy]; exact h), rg_ng y hy, sg_ng y hy]; rfl
  · rw [read_inf y h, read_inf (ng y) (by rw [rg_ng y hy]; exact h), sg_ng y hy]; rfl
  · obtain ⟨n, f, e⟩ := read_nan y h
    obtain ⟨n', f', e'⟩ := read_nan (ng y) (by rw [rg_ng y hy]; exact h)
    rw [e, e']
    cases double.read x <;> rfl

/-! what a product and a quotient with 1 are -/

theorem rnan_false {b : Nat} (h : rnan b = false) : rg b ≤ INF := by
  rw [rnan_iff] at h; simp at h; exact h

def one : Nat := 4607182418800017408

theorem read_one : double.read one = .number false 4503599627370496 (-52) := by decide

theorem write_read (b : Nat) (hb : b < 18446744073709551616) (h : rg b ≤ INF) : double.write (double.read b) = b := by
  by_cases c : rg b = INF
  · rw [read_inf b c]
    unfold Format.write
    have e3 : double.infRung = INF := by decide
    dsimp only
    rw [e3, ← c, word_eq b hb]
  · rw [read_num b (by omega)]
    unfold Format.write
    have := nearest_exact (sg b) (rg b) 0 (by omega)
    rw [Nat.pow_zero, Nat.mul_one, show -1074 + (E (rg b) : Int) - ((0 : Nat) : Int) = -1074 + (E (rg b) : Int) from by omega] at this
    dsimp only
    rw [this, word_eq b hb]

theorem mul_one' (b : Nat) (hb : b < 18446744073709551616) (h : rg b ≤ INF) : double.mul b one = some b := by
  unfold Format.mul
  rw [read_one]
  by_cases c : rg b = INF
  · rw [read_inf b c]
    unfold Datum.product
    have := write_read b hb h
    rw [read_inf b c] at this
    simp only [Bool.xor_false]
    rw [if_neg (by decide), Option.map_some, this]
  · rw [read_num b (by omega)]
    unfold Datum.product
    have := nearest_exact (sg b) (rg b) 52 (by omega)
    rw [word_eq b hb] at this
    simp only [Bool.xor_false, Option.map_some, Format.write]
    rw [show (4503599627370496 : Nat) = 2 ^ 52 from by decide, show -1074 + (E (rg b) : Int) + -52 = -1074 + (E (rg b) : Int) - (52 : Nat) from by omega, this]

theorem div_one' (b : Nat) (hb : b < 18446744073709551616) (h : rg b ≤ INF) : double.div b one = some b := by
  unfold Format.div
  rw [read_one]
  by_cases c : rg b = INF
  · rw [read_inf b c]
    unfold Datum.quotient
    have := write_read b hb h
    rw [read_inf b c] at this
    simp only [Bool.xor_false]
    rw [Option.map_some, this]
  · rw [read_num b (by omega)]
    unfold Datum.quotient
    have hl : (4503599627370496 : Nat).log2 = 52 := log2_eq (by decide) (by decide)
    have hf : double.fractionBits = 52 := rfl
    have hM : (M (rg b)).log2 ≤ 52 := by
      by_cases z : M (rg b) = 0
      · rw [z]; decide
      · have := (Nat.log2_lt z).2 (show M (rg b) < 2 ^ 53 from M_lt _); omega
    dsimp only
    rw [if_neg (by decide), hl, hf]
    obtain ⟨j, hj⟩ : ∃ j, 52 + 2 + 52 - (M (rg b)).log2 = 52 + j := ⟨54 - (M (rg b)).log2, by omega⟩
    rw [hj]
    have h1 : M (rg b) <<< (52 + j) = M (rg b) * 2 ^ j * 4503599627370496 := by
      rw [Nat.shiftLeft_eq, Nat.pow_add, Nat.mul_assoc, Nat.mul_comm (2 ^ 52)]
    rw [h1, Nat.mul_div_cancel _ (by decide), Nat.mul_mod_left]
    have := nearest_exact (sg b) (rg b) (j + 1) (by omega)
    rw [word_eq b hb] at this
    simp only [Bool.xor_false, Option.map_some, Format.write]
    have h2 : 2 * (M (rg b) * 2 ^ j) + (0 != 0 : Bool).toNat = M (rg b) * 2 ^ (j + 1) := by
      rw [Nat.pow_succ]
      simp
      rw [Nat.mul_left_comm, Nat.mul_comm 2 (2 ^ j)]
    rw [h2, show -1074 + (E (rg b) : Int) - -52 - ((52 + j : Nat) : Int) - 1 = -1074 + (E (rg b) : Int) - ((j + 1 : Nat) : Int) from by omega, this]

/-! whole numbers -/

theorem cut_even (s : Bool) (n c : Nat) (hc : c ≤ n.log2 + 2) :
    Toward.even.cut s n c = n / 2 ^ c + (if 2 ^ c < 2 * (n % 2 ^ c) ∨ (2 ^ c = 2 * (n % 2 ^ c) ∧ n / 2 ^ c % 2 = 1) then 1 else 0) := by
  unfold Toward.cut
  dsimp only
  rw [Nat.min_eq_left hc, Nat.shiftLeft_eq, Nat.one_mul]
  congr 1
  generalize 2 ^ c = g
  generalize n % g = r
  generalize n / g % 2 = b
  by_cases h1 : g < 2 * r
  · rw [if_pos (.inl h1), decide_eq_true h1]; rfl
  · by_cases h2 : g = 2 * r
    · by_cases h3 : b = 1
      · rw [if_pos (.inr ⟨h2, h3⟩)]
        simp [h2, h3]
      · rw [if_neg (by omega)]
        simp [h2, h3]
    · rw [if_neg (by omega)]
      simp [h1, h2]

theorem nearest_num (s : Bool) (m : Nat) (p : Int) : rnan (double.nearest s m p) = false := by
  have e3 : double.infRung = INF := by decide
  rw [rnan_iff]
  unfold Format.nearest
  split
  · rw [rg_word _ _ (by decide)]; decide
  · dsimp only
    rw [e3, rg_word _ _ (Nat.lt_of_le_of_lt (Nat.min_le_right _ _) (by decide))]
    exact decide_eq_false (Nat.not_lt.2 (Nat.min_le_right _ _))

/-- the rung of the number nearest to a whole one, whose highest bit is k -/
def wholeRung (n k : Nat) : Nat :=
  if k ≤ 52 then (k + 1022) * 4503599627370496 + n * 2 ^ (52 - k)
  else (k + 1022) * 4503599627370496 + (n / 2 ^ (k - 52) + (if 2 ^ (k - 52) < 2 * (n % 2 ^ (k - 52)) ∨ (2 ^ (k - 52) = 2 * (n % 2 ^ (k - 52)) ∧ n / 2 ^ (k - 52) % 2 = 1) then 1 else 0))

theorem whole_small {n k : Nat} (h2 : n < 2 ^ (k + 1)) (c : k ≤ 52) : n * 2 ^ (52 - k) < 9007199254740992 := by
  have : n * 2 ^ (52 - k) < 2 ^ (k + 1) * 2 ^ (52 - k) := Nat.mul_lt_mul_of_pos_right h2 (Nat.two_pow_pos _)
  rw [← Nat.pow_add, show k + 1 + (52 - k) = 53 from by omega] at this
  exact this

theorem whole_quot {n k : Nat} (h2 : n < 2 ^ (k + 1)) (c : 52 < k) : n / 2 ^ (k - 52) < 9007199254740992 := by
  apply Nat.div_lt_of_lt_mul
  rw [show (9007199254740992 : Nat) = 2 ^ 53 from rfl, ← Nat.pow_add, show k - 52 + 53 = k + 1 from by omega]
  exact h2

theorem nearest_whole (s : Bool) (n k : Nat) (h1 : 2 ^ k ≤ n) (h2 : n < 2 ^ (k + 1)) (hk : k ≤ 63) : double.nearest s n 0 = double.word s (wholeRung n k) := by
  have hl : n.log2 = k := log2_eq h1 h2
  have hn : n ≠ 0 := by have := Nat.two_pow_pos k; omega
  have e1 : double.fractionBits = 52 := rfl
  have e2 : double.binade = 4503599627370496 := by decide
  have e3 : double.infRung = 9218868437227405312 := by decide
  have e4 : double.leastPlace = -1074 := by decide
  unfold Format.nearest wholeRung
  rw [if_neg hn]
  dsimp only
  rw [e1, e2, e3, e4, hl]
  have m1 : max ((0 : Int) + (k : Nat) - (52 : Nat)) (-1074) = (k : Int) - 52 := by omega
  rw [m1]
  have m4 : ((k : Int) - 52 - -1074).toNat = k + 1022 := by omega
  rw [m4]
  by_cases c : k ≤ 52
  · have m2 : ((0 : Int) - ((k : Int) - 52)).toNat = 52 - k := by omega
    have m3 : ((k : Int) - 52 - 0).toNat = 0 := by omega
    rw [m2, m3, if_pos c, Nat.shiftLeft_eq]
    have hne : n * 2 ^ (52 - k) ≠ 0 := Nat.mul_ne_zero hn (by have := Nat.two_pow_pos (52 - k); omega)
    have := cut_exact .even s (n * 2 ^ (52 - k)) 0 hne
    rw [Nat.pow_zero, Nat.mul_one] at this
    rw [this, Nat.min_eq_left]
    have := whole_small h2 c
    omega
  · have m2 : ((0 : Int) - ((k : Int) - 52)).toNat = 0 := by omega
    have m3 : ((k : Int) - 52 - 0).toNat = k - 52 := by omega
    rw [m2, m3, if_neg c, Nat.shiftLeft_zero, cut_even _ _ _ (by omega), Nat.min_eq_left]
    have := whole_quot h2 (Nat.lt_of_not_le c)
    split <;> omega

theorem wholeRung_lt {n k : Nat} (h2 : n < 2 ^ (k + 1)) (hk : k ≤ 63) : wholeRung n k < 9218868437227405312 := by
  unfold wholeRung
  split
  · rename_i c; have := whole_small h2 c; omega
  · rename_i c; have := whole_quot h2 (Nat.lt_of_not_le c); split <;> omega

theorem cut_zero (s : Bool) (n d : Nat) : Toward.zero.cut s n d = n / 2 ^ d := by
  unfold Toward.cut
  dsimp only
  rw [Nat.shiftLeft_eq, Nat.one_mul]
  show n / 2 ^ min d (n.log2 + 2) + 0 = _
  rw [Nat.add_zero]
  by_cases h : d ≤ n.log2 + 2
  · rw [Nat.min_eq_left h]
  · rw [Nat.min_eq_right (by omega)]
    by_cases z : n = 0
    · subst z; simp
    · have hb := (log2_bounds z).2
      have h1 : 2 ^ (n.log2 + 1) ≤ 2 ^ (n.log2 + 2) := Nat.pow_le_pow_right (by decide) (by omega)
      have h2 : 2 ^ (n.log2 + 1) ≤ 2 ^ d := Nat.pow_le_pow_right (by decide) (by omega)
      rw [Nat.div_eq_of_lt (by omega), Nat.div_eq_of_lt (by omega)]

/-- the whole part of the number on a rung -/
def TI (r : Nat) : Nat := if 1074 ≤ E r then M r * 2 ^ (E r - 1074) else M r / 2 ^ (1074 - E r)

theorem toInt_num (b : Nat) (h : rg b < INF) : (double.read b).toInt .zero = some (if sg b then -(TI (rg b) : Int) else (TI (rg b) : Int)) := by
  rw [read_num b h]
  unfold Datum.toInt Datum.integral
  dsimp only
  rw [cut_zero, Nat.shiftLeft_eq]
  unfold signed TI
  by_cases c : 1074 ≤ E (rg b)
  · have e1 : (-1074 + (E (rg b) : Int)).toNat = E (rg b) - 1074 := by omega
    have e2 : (-(-1074 + (E (rg b) : Int))).toNat = 0 := by omega
    rw [e1, e2, if_pos c, Nat.pow_zero, Nat.div_one, Nat.shiftLeft_zero]
  · have e1 : (-1074 + (E (rg b) : Int)).toNat = 0 := by omega
    have e2 : (-(-1074 + (E (rg b) : Int))).toNat = 1074 - E (rg b) := by omega
    rw [e1, e2, if_neg c, Nat.pow_zero, Nat.mul_one, Nat.shiftLeft_zero]

theorem TI_lt {r : Nat} (h : r < 4890909195324358656) : TI r < 9223372036854775808 := by
  have hM := M_lt r
  have hE : E r ≤ 1084 := by unfold E; omega
  unfold TI
  split
  · rename_i c
    have h2 : 2 ^ (E r - 1074) ≤ 2 ^ 10 := Nat.pow_le_pow_right (by decide) (by omega)
    have h3 : M r * 2 ^ (E r - 1074) ≤ M r * 2 ^ 10 := Nat.mul_le_mul_left _ h2
    omega
  · have := Nat.div_le_self (M r) (2 ^ (1074 - E r))
    omega

theorem TI_edge : TI 4890909195324358656 = 9223372036854775808 := by decide +kernel

theorem whole_big {n k : Nat} (h1 : 2 ^ k ≤ n) (c : k ≤ 52) : 4503599627370496 ≤ n * 2 ^ (52 - k) := by
  have : 2 ^ k * 2 ^ (52 - k) ≤ n * 2 ^ (52 - k) := Nat.mul_le_mul_right _ h1
  rw [← Nat.pow_add, show k + (52 - k) = 52 from by omega] at this
  exact this

theorem TI_whole {n k : Nat} (h1 : 2 ^ k ≤ n) (h2 : n < 2 ^ (k + 1)) (c : k ≤ 52) : TI (wholeRung n k) = n := by
  have hs := whole_small h2 c
  have hb := whole_big h1 c
  have hr : wholeRung n k = (k + 1022) * 4503599627370496 + n * 2 ^ (52 - k) := by unfold wholeRung; rw [if_pos c]
  have hE : E (wholeRung n k) = k + 1022 := by rw [hr]; unfold E; omega
  have hM : M (wholeRung n k) = n * 2 ^ (52 - k) := by rw [hr]; unfold M; rw [if_neg (by omega)]; omega
  unfold TI
  rw [hE, hM]
  by_cases d : k = 52
  · subst d
    rw [if_pos (by omega)]
    simp
  · rw [if_neg (by omega), show 1074 - (k + 1022) = 52 - k from by omega]
    exact Nat.mul_div_cancel _ (Nat.two_pow_pos _)

end Go.Proofs.YtkffomfbnbcgaaaGreatDoor

namespace Go.Proofs.YtkffomfbnbcgaaaGreatDoor
set_option maxRecDepth 100000
open Go.RowKit

def ub (a : Int) : Nat := (IntKind.u64.wrap a).toNat

theorem wrap_u64_ub (a : Int) : IntKind.u64.wrap a = (ub a : Int) := by
  unfold ub; rw [IntKind.wrap_u64]; omega

def RBits (b : Nat) : Int := if rnan b then 9221120237041090560 else wrap64 (b : Int)

def RCanon (a : Int) : Int := RBits (ub a)

theorem nan_word (t : Nat) : rnan ((t % 2) * 2 ^ 63 + 0x7ff0000000000000 + 1 + (t / 2) % (2 ^ 52 - 1)) = true := by
  have h1 : (t / 2) % (2 ^ 52 - 1) < 2 ^ 52 - 1 := Nat.mod_lt _ (by decide)
  generalize (t / 2) % (2 ^ 52 - 1) = k at *
  have h2 : t % 2 < 2 := Nat.mod_lt _ (by decide)
  generalize t % 2 = s at *
  have hr : ∃ n f, Ieee.double.read (s * 2 ^ 63 + 0x7ff0000000000000 + 1 + k) = .nan n f := by
    unfold Ieee.Format.read
    have e1 : Ieee.double.signWeight = 2 ^ 63 := by decide
    have e2 : Ieee.double.binade = 2 ^ 52 := by decide
    have e3 : Ieee.double.infRung = 0x7ff0000000000000 := by decide
    rw [e1, e2, e3]
    dsimp only
    have e4 : (s * 2 ^ 63 + 0x7ff0000000000000 + 1 + k) % 2 ^ 63 = 0x7ff0000000000000 + 1 + k := by omega
    rw [e4, if_neg (by omega), if_neg (by omega), if_neg (by omega)]
    exact ⟨_, _, rfl⟩
  obtain ⟨n, f, h⟩ := hr
  unfold rnan Ieee.Format.order
  rw [h]
  rfl

theorem RBits_nan {nb : Nat} (h : rnan nb = true) : RBits nb = 9221120237041090560 := by unfold RBits; rw [if_pos h]

/-- a sum, difference, product, quotient: the operation's word in its one form; NaN where there is none -/
def ROf (o : Option Nat) : Int := match o with | some r => RBits r | none => 9221120237041090560

def RNeg (a : Int) : Int := RBits (Op.negFloat .f64 (ub a))

def ROfInt (n : Int) : Int := RBits (floatOfInt .f64 n)

def fcmp (x y : Nat) : Int := match Ieee.double.order x y with | some .lt => -1 | some .gt => 1 | _ => 0

def forder (x y : Nat) : Int := if rnan x then (if rnan y then 0 else 1) else if rnan y then -1 else fcmp x y

def ROrder (a b : Int) : Int := forder (ub a) (ub b)

def RToInt (a : Int) : Int × Int := match floatToIntVal .f64 (ub a) .i64 with | some n => (n, 0) | none => (0, 10)

def tbad (b : Nat) : Bool := rnan b || Ieee.double.order b 14114281232179134464 == some .lt || (Ieee.double.order b 4890909195324358656 == some .gt || Ieee.double.order b 4890909195324358656 == some .eq)

/-- the power of ten, as a word -/
def P10 (k : Nat) : Nat := floatOfInt .f64 (10 ^ k : Nat)

theorem p10_step : ∀ k, k < 15 → Ieee.double.mul (P10 k) 4621819117588971520 = some (P10 (k + 1)) := by decide +kernel

def dbad (m s : Int) : Bool := decide (m < 0) || decide (999999999999999 < m) || decide (s < 0) || decide (15 < s)

def ROfDecimal (m s : Int) : Int × Int := if dbad m s then (0, 11) else (ROf (Ieee.double.div (floatOfInt .f64 m) (P10 s.toNat)), 0)

theorem ub_lt (a : Int) : ub a < 18446744073709551616 := by unfold ub; rw [IntKind.wrap_u64]; omega

theorem ret_i {k : IntKind} {a b : Int} (h : a = b) : Ending.returned (.int k a) = .returned (.int k b) := by rw [h]

theorem ret_i2 {k l : IntKind} {a b c d : Int} (h : a = b) (g : c = d) : Ending.returned (.tuple #[.int k a, .int l c]) = .returned (.tuple #[.int k b, .int l d]) := by rw [h, g]

theorem ret_i3 {k l m : IntKind} {a b c d e f : Int} (h : a = b) (g : c = d) (i : e = f) : Ending.returned (.tuple #[.int k a, .int l c, .int m e]) = .returned (.tuple #[.int k b, .int l d, .int m f]) := by rw [h, g, i]

theorem and2047 (n : Nat) (h : n < 18446744073709551616) : bits .and .u64 (n : Int) 2047 = ((n % 2048 : Nat) : Int) := by
  have := bits_and_u64_nat n 2047 h (by decide)
  rw [show ((2047 : Nat) : Int) = 2047 from rfl] at this
  rw [this, show (2047 : Nat) = 2 ^ 11 - 1 from rfl, Nat.and_two_pow_sub_one_eq_mod]

theorem and52 (n : Nat) (h : n < 18446744073709551616) : bits .and .u64 (n : Int) 4503599627370495 = ((n % 4503599627370496 : Nat) : Int) := by
  have := bits_and_u64_nat n 4503599627370495 h (by decide)
  rw [show ((4503599627370495 : Nat) : Int) = 4503599627370495 from rfl] at this
  rw [this, show (4503599627370495 : Nat) = 2 ^ 52 - 1 from rfl, Nat.and_two_pow_sub_one_eq_mod]

theorem ub_parts (a : Int) : rg (ub a) = ub a / 4503599627370496 % 2048 * 4503599627370496 + ub a % 4503599627370496 := by
  unfold rg; have := ub_lt a; omega

theorem ub_sign (a : Int) : sg (ub a) = decide (ub a / 9223372036854775808 = 1) := by
  unfold sg; have := ub_lt a
  rw [Nat.mod_eq_of_lt (by omega)]; rfl

def PCanon (a : Int) : Int := if rnan (ub a) then 9221120237041090560 else a

/-- a number's place in the document's order -/
def PPlace (a : Int) : Int := if rnan (ub a) then 9223372036854775807 else pl (ub a)

def POrder (a b : Int) : Int := if PPlace a < PPlace b then -1 else if PPlace b < PPlace a then 1 else 0

theorem ub_wrap (b : Nat) (h : b < 18446744073709551616) : ub (wrap64 (b : Int)) = b := by
  unfold ub wrap64; rw [IntKind.wrap_u64]; omega

theorem nan_word_lt (t : Nat) : ((t % 2) * 2 ^ 63 + 0x7ff0000000000000 + 1 + (t / 2) % (2 ^ 52 - 1)) < 18446744073709551616 := by
  have h1 : (t / 2) % (2 ^ 52 - 1) < 2 ^ 52 - 1 := Nat.mod_lt _ (by decide)
  generalize (t / 2) % (2 ^ 52 - 1) = k at *
  have h2 : t % 2 < 2 := Nat.mod_lt _ (by decide)
  omega

def PNeg (a : Int) : Int := if rnan (ub a) then 9221120237041090560 else bits .xor .i64 a (-9223372036854775808)

def InI (a : Int) : Prop := -9223372036854775808 ≤ a ∧ a ≤ 9223372036854775807

theorem wrap_ub {a : Int} (h : InI a) : wrap64 (ub a : Int) = a := by
  obtain ⟨h1, h2⟩ := h
  unfold ub wrap64; rw [IntKind.wrap_u64]; omega

theorem wrap_in (n : Int) : InI (wrap64 n) := by unfold InI wrap64; omega

theorem canon_eq {a : Int} (h : InI a) : RCanon a = PCanon a := by
  unfold RCanon PCanon RBits; rw [wrap_ub h]

theorem xor_min (a : Int) : bits .xor .i64 a (-9223372036854775808) = wrap64 (ng (ub a) : Int) := by
  unfold bits
  dsimp only
  rw [IntKind.wrap_i64, BitVec.toNat_xor]
  have h1 : (BitVec.ofInt IntKind.i64.bits a).toNat = ub a := by
    rw [BitVec.toNat_ofInt]; unfold ub; rw [IntKind.wrap_u64]; rfl
  have h2 : (BitVec.ofInt IntKind.i64.bits (-9223372036854775808)).toNat = 2 ^ 63 := by decide
  rw [h1, h2]
  unfold wrap64 ng
  rfl

theorem nan_ub : ub 9221120237041090560 = 9221120237041090560 := by decide

theorem nan_rnan : rnan 9221120237041090560 = true := by decide +kernel

theorem rnan_ng (b : Nat) (h : b < 18446744073709551616) : rnan (ng b) = rnan b := by
  rw [rnan_iff, rnan_iff, rg_ng b h]

theorem neg_eq (a : Int) : RNeg a = PNeg a := by
  unfold RNeg PNeg RBits
  rw [xor_min]
  have : Op.negFloat .f64 (ub a) = ng (ub a) := rfl
  rw [this, rnan_ng _ (ub_lt a)]

theorem pl_bound (b : Nat) (h : rnan b = false) : -9218868437227405312 ≤ pl b ∧ pl b ≤ 9218868437227405312 := by
  have := rnan_false h
  unfold pl
  unfold INF at this
  split <;> omega

theorem order_eq (a b : Int) : ROrder a b = POrder a b := by
  unfold ROrder POrder forder PPlace
  rcases ha : rnan (ub a) with _ | _ <;> rcases hb : rnan (ub b) with _ | _
  · have h1 := order_pl (ub a) (ub b) (rnan_false ha) (rnan_false hb)
    simp only [Bool.false_eq_true, if_false]
    unfold fcmp
    rw [h1]
    by_cases c : pl (ub a) < pl (ub b)
    · rw [cmp_lt c, if_pos c]
    · by_cases d : pl (ub b) < pl (ub a)
      · rw [cmp_gt d, if_neg c, if_pos d]
      · rw [cmp_eq (by omega), if_neg c, if_neg d]
  · have := pl_bound _ ha
    simp
    omega
  · have := pl_bound _ hb
    simp
    omega
  · simp

theorem porder_neg (a b : Int) : POrder a b = -POrder b a := by
  unfold POrder; repeat' split
  all_goals omega

theorem porder_canon (a : Int) : POrder a (PCanon a) = 0 := by
  have : PPlace (PCanon a) = PPlace a := by
    unfold PPlace PCanon
    rcases h : rnan (ub a) with _ | _
    · simp only [Bool.false_eq_true, if_false, h]
    · rw [if_pos rfl, nan_ub, nan_rnan, if_pos rfl, if_pos rfl]
  unfold POrder
  rw [this, if_neg (by omega), if_neg (by omega)]

theorem porder_vals (a b : Int) : POrder a b = -1 ∨ POrder a b = 0 ∨ POrder a b = 1 := by
  unfold POrder; repeat' split
  all_goals simp

theorem pcanon_in {a : Int} (h : InI a) : InI (PCanon a) := by
  unfold PCanon; split
  · unfold InI; omega
  · exact h

/-- a number in its one form -/
def Cn (a : Int) : Prop := InI a ∧ (rnan (ub a) = true → a = 9221120237041090560)

theorem cn_canon {a : Int} (h : InI a) : Cn (RCanon a) := by
  rw [canon_eq h]
  refine ⟨pcanon_in h, ?_⟩
  unfold PCanon
  rcases hn : rnan (ub a) with _ | _
  · simp [hn]
  · simp

theorem rbits_ub {a : Int} (h : InI a) (hn : rnan (ub a) = false) : RBits (ub a) = a := by
  unfold RBits; rw [hn, wrap_ub h]; rfl

theorem sum_nan_l (n : Bool) (f : Nat) (d : Ieee.Datum) : (Ieee.Datum.nan n f).sum d = none := by cases d <;> rfl

theorem sum_nan_r (n : Bool) (f : Nat) (d : Ieee.Datum) : d.sum (Ieee.Datum.nan n f) = none := by cases d <;> rfl

theorem prod_nan_l (n : Bool) (f : Nat) (d : Ieee.Datum) : (Ieee.Datum.nan n f).product d = none := by cases d <;> rfl

theorem prod_nan_r (n : Bool) (f : Nat) (d : Ieee.Datum) : d.product (Ieee.Datum.nan n f) = none := by cases d <;> rfl

theorem quot_nan_l (n : Bool) (f k : Nat) (d : Ieee.Datum) : Ieee.Datum.quotient k (Ieee.Datum.nan n f) d = none := by cases d <;> rfl

theorem quot_nan_r (n : Bool) (f k : Nat) (d : Ieee.Datum) : Ieee.Datum.quotient k d (Ieee.Datum.nan n f) = none := by cases d <;> rfl

theorem opp_nan (n : Bool) (f : Nat) : (Ieee.Datum.nan n f).opposite = .nan (!n) f := rfl

theorem op_nan (x y : Nat) (h : rnan x = true ∨ rnan y = true) : Ieee.double.add x y = none ∧ Ieee.double.sub x y = none ∧ Ieee.double.mul x y = none ∧ Ieee.double.div x y = none := by
  unfold Ieee.Format.add Ieee.Format.sub Ieee.Format.mul Ieee.Format.div
  rcases h with h | h
  · have h' : INF < rg x := by rw [rnan_iff] at h; exact of_decide_eq_true h
    obtain ⟨n, f, e⟩ := read_nan x h'
    rw [e, sum_nan_l, sum_nan_l, prod_nan_l, quot_nan_l]
    exact ⟨Option.map_none _, Option.map_none _, Option.map_none _, Option.map_none _⟩
  · have h' : INF < rg y := by rw [rnan_iff] at h; exact of_decide_eq_true h
    obtain ⟨n, f, e⟩ := read_nan y h'
    rw [e, opp_nan, sum_nan_r, sum_nan_r, prod_nan_r, quot_nan_r]
    exact ⟨Option.map_none _, Option.map_none _, Option.map_none _, Option.map_none _⟩

theorem pneg_num {a : Int} (hn : rnan (ub a) = false) : PNeg a = wrap64 (ng (ub a) : Int) := by
  unfold PNeg; rw [hn, xor_min, if_neg (by decide)]

theorem pneg_nan {a : Int} (ha : Cn a) (hn : rnan (ub a) = true) : PNeg a = a := by
  unfold PNeg; rw [hn, if_pos rfl]; exact (ha.2 hn).symm

theorem ub_neg {a : Int} (hn : rnan (ub a) = false) : ub (RNeg a) = ng (ub a) := by
  rw [neg_eq, pneg_num hn]
  exact ub_wrap _ (ng_lt _ (ub_lt a))

theorem law_sub {b : Int} (a : Int) (hb : Cn b) : ROf (Ieee.double.sub (ub a) (ub b)) = ROf (Ieee.double.add (ub a) (ub (RNeg b))) := by
  rcases hn : rnan (ub b) with _ | _
  · rw [ub_neg hn, sub_add _ _ (ub_lt b)]
  · have h2 : RNeg b = b := by rw [neg_eq, pneg_nan hb hn]
    rw [h2, (op_nan _ _ (.inr hn)).1, (op_nan _ _ (.inr hn)).2.1]

theorem law_neg {a : Int} (ha : Cn a) : RNeg (RNeg a) = a := by
  rcases hn : rnan (ub a) with _ | _
  · have h1 := ub_neg hn
    have h2 : rnan (ub (RNeg a)) = false := by rw [h1, rnan_ng _ (ub_lt a), hn]
    rw [neg_eq (RNeg a), pneg_num h2, h1, ng_ng]
    exact wrap_ub ha.1
  · have h2 : RNeg a = a := by rw [neg_eq, pneg_nan ha hn]
    rw [h2, h2]

theorem law_mul {a : Int} (ha : Cn a) : ROf (Ieee.double.mul (ub a) (ub 4607182418800017408)) = a := by
  have ho : ub 4607182418800017408 = one := by decide
  rw [ho]
  rcases hn : rnan (ub a) with _ | _
  · rw [mul_one' _ (ub_lt a) (rnan_false hn)]
    exact rbits_ub ha.1 hn
  · rw [(op_nan _ _ (.inl hn)).2.2.1, ha.2 hn]; rfl

theorem law_div {a : Int} (ha : Cn a) : ROf (Ieee.double.div (ub a) (ub 4607182418800017408)) = a := by
  have ho : ub 4607182418800017408 = one := by decide
  rw [ho]
  rcases hn : rnan (ub a) with _ | _
  · rw [div_one' _ (ub_lt a) (rnan_false hn)]
    exact rbits_ub ha.1 hn
  · rw [(op_nan _ _ (.inl hn)).2.2.2, ha.2 hn]; rfl

theorem run_float_nan {P : Program} (op : BinOp) (hop : op = .add ∨ op = .sub ∨ op = .mul ∨ op = .quo) (t : TypeId) (x y : Nat) (h : floatBits op .f64 x y = none) (w : World) :
    ∃ nb, rnan nb = true ∧ (binOp op t (.float .f64 x) (.float .f64 y)).run P w = .ok (.float .f64 nb) w.drew := by
  refine ⟨_, nan_word (w.tape w.drawn (.nanBits .f64 x y)), ?_⟩
  unfold floatBits at h
  rcases hop with rfl | rfl | rfl | rfl <;> simp only at h <;> simp [binOp, Op.floatArith, h, Question.forced, Question.cut]

theorem run_float_nan_lt {P : Program} (op : BinOp) (hop : op = .add ∨ op = .sub ∨ op = .mul ∨ op = .quo) (t : TypeId) (x y : Nat) (h : floatBits op .f64 x y = none) (w : World) :
    ∃ nb, rnan nb = true ∧ nb < 18446744073709551616 ∧ (binOp op t (.float .f64 x) (.float .f64 y)).run P w = .ok (.float .f64 nb) w.drew := by
  refine ⟨_, nan_word (w.tape w.drawn (.nanBits .f64 x y)), nan_word_lt _, ?_⟩
  unfold floatBits at h
  rcases hop with rfl | rfl | rfl | rfl <;> simp only at h <;> simp [binOp, Op.floatArith, h, Question.forced, Question.cut]

end Go.Proofs.YtkffomfbnbcgaaaGreatDoor

namespace Go.Proofs.YtkffomfbnbcgaaaGreatDoor
set_option maxRecDepth 100000
open Go.RowKit Go.Joins Go.ChangeShapes Go.WideShapes
set_option linter.unusedVariables false

/-- a row of bytes in memory -/
structure IsB (w : World) (b off : Nat) (l : List Nat) : Prop where
  hb : 0 < l.length → b < w.heap.size
  c : ∀ (i x : Nat), l[i]? = some x → w.cell? ⟨b, off + i, none⟩ = some (.int .u8 (x : Int))
  lt : ∀ x ∈ l, x < 256
theorem IsB.below {w w' : World} {b off : Nat} {l : List Nat} (h : IsB w b off l) (hw : Below w.heap.size w w') : IsB w' b off l := by
  obtain ⟨hc, _⟩ := bcell hw
  refine ⟨fun hl => Nat.lt_of_lt_of_le (h.hb hl) hw.size, fun i x hx => ?_, h.lt⟩
  have hl : 0 < l.length := by have := (List.getElem?_eq_some_iff.1 hx).1; omega
  rw [hc _ _ (h.hb hl)]
  exact h.c i x hx
theorem OwB.isB {w : World} {base : Nat} {v : Value} {l : List Nat} (h : OwB w base v l) (hl : ∀ x ∈ l, x < 256) : ∃ g cap, v = .slice (some ⟨g, 0, none⟩) l.length cap ∧ IsB w g 0 l ∧ base ≤ g := by
  obtain ⟨g, cap, e, hb, hg, hc⟩ := h.form
  refine ⟨g, cap, e, ⟨fun _ => hg, fun i x hx => ?_, hl⟩, hb⟩
  rw [Nat.zero_add]
  refine hc i _ ?_
  simp only [bcells, List.getElem?_map, hx, Option.map_some]
/-- a row that has a byte shows its address -/
theorem IsB.drop {w : World} {b off : Nat} {l : List Nat} (h : IsB w b off l) (k : Nat) : IsB w b (off + k) (l.drop k) :=
  ⟨fun hl => h.hb (by rw [List.length_drop] at hl; omega), fun i x hx => by rw [List.getElem?_drop] at hx; rw [Nat.add_assoc]; exact h.c _ _ hx, fun x hx => h.lt x (List.mem_of_mem_drop hx)⟩
theorem IsB.take {w : World} {b off : Nat} {l : List Nat} (h : IsB w b off l) (k : Nat) : IsB w b off (l.take k) :=
  ⟨fun hl => h.hb (by rw [List.length_take] at hl; omega), fun i x hx => h.c i x (by rw [List.getElem?_take] at hx; split at hx; exact hx; cases hx), fun x hx => h.lt x (List.mem_of_mem_take hx)⟩

set_option maxRecDepth 100000 in
/-- a piece of a row of bytes -/
theorem slice_b (b off m cap i n : Nat) (hn : 0 < n) (h : i + n ≤ cap) (lo hi : Int) (hl : lo = (i : Int)) (hh : hi = (i : Int) + (n : Int)) (w : World) :
    (Instr.slice 45 (.slice (some ⟨b, off, none⟩) m cap) (some (.int .i64 lo)) (some (.int .i64 hi)) none).run Tryz.prog w = .ok (.slice (some ⟨b, off + i, none⟩) n (cap - i)) w := by
  subst hl hh
  have hs : (sizeOf (Tryz.prog.elem 45)).run Tryz.prog w = .ok 1 w := by first | rfl | kernel_rfl
  rw [run_slice_lh w 45 (some ⟨b, off, none⟩) m cap (by kernel_rfl) .i64 .i64 (i : Int) ((i : Int) + (n : Int)) (by omega) (by omega) (by omega), hs]
  have e1 : ((i : Int)).toNat = i := by omega
  have e2 : ((i : Int) + (n : Int)).toNat = i + n := by omega
  have ea : (⟨b, off, none⟩ : Addr).add i = ⟨b, off + i, none⟩ := by unfold Addr.add; split <;> simp_all
  simp only [Result.andThen, sliced, e1, e2, Nat.mul_one]
  rw [if_neg (by omega), Option.map_some, ea]
  congr 2
  omega

/-- which row of bytes comes first -/
def ordB : List Nat → List Nat → Int
  | [], [] => 0
  | [], _ :: _ => -1
  | _ :: _, [] => 1
  | a :: l, b :: r => if a < b then -1 else if b < a then 1 else ordB l r
theorem ordB_step {l r : List Nat} {k x y : Nat} (hx : l[k]? = some x) (hy : r[k]? = some y) : ordB (l.drop k) (r.drop k) = if x < y then -1 else if y < x then 1 else ordB (l.drop (k + 1)) (r.drop (k + 1)) := by
  obtain ⟨h1, e1⟩ := List.getElem?_eq_some_iff.1 hx
  obtain ⟨h2, e2⟩ := List.getElem?_eq_some_iff.1 hy
  rw [List.drop_eq_getElem_cons h1, List.drop_eq_getElem_cons h2, e1, e2]
  rfl
theorem ordB_l {l r : List Nat} {k : Nat} (h : k = l.length) (h2 : k ≤ r.length) : ordB (l.drop k) (r.drop k) = if l.length < r.length then -1 else 0 := by
  subst h
  rw [List.drop_length]
  by_cases c : l.length < r.length
  · rw [List.drop_eq_getElem_cons c, if_pos c]; rfl
  · rw [List.drop_eq_nil_of_le (by omega), if_neg c]; rfl
theorem ordB_r {l r : List Nat} {k : Nat} (h : k = r.length) (h2 : k < l.length) : ordB (l.drop k) (r.drop k) = 1 := by
  subst h
  rw [List.drop_length, List.drop_eq_getElem_cons h2]
  rfl

/-- does a row begin with another one? -/
theorem begins_take {l r : List Nat} (h : r.length ≤ l.length) : l.take r.length = r ↔ ∀ k, k < r.length → l[k]? = r[k]? := by
  constructor
  · intro e k hk
    rw [← e, List.getElem?_take, if_pos hk]
  · intro e
    apply List.ext_getElem?
    intro k
    rw [List.getElem?_take]
    by_cases c : k < r.length
    · rw [if_pos c, e k c]
    · rw [if_neg c, List.getElem?_eq_none (by omega)]

end Go.Proofs.YtkffomfbnbcgaaaGreatDoor

namespace Go.Proofs.YtkffomfbnbcgaaaGreatDoor
set_option maxRecDepth 100000
open Go.RowKit Go.Joins Go.ChangeShapes Go.WideShapes
set_option linter.unusedVariables false

/-- a set of blocks -/
abbrev Bl := Nat → Prop
/-- from w to w' only the blocks of F, and new ones, have turned -/
structure Frm (F : Bl) (w w' : World) : Prop where
  os : w'.os = w.os
  tape : w'.tape = w.tape
  output : w'.output = w.output
  size : w.heap.size ≤ w'.heap.size
  block : ∀ k, k < w.heap.size → ¬ F k → w'.heap[k]? = w.heap[k]?
/-- F' has nothing of the old but F's -/
def New (w : World) (F F' : Bl) : Prop := ∀ k, F' k → F k ∨ w.heap.size ≤ k
theorem New.refl (w : World) (F : Bl) : New w F F := fun _ h => .inl h
theorem New.trans {w w1 : World} {F F1 F2 : Bl} (h : New w F F1) (h2 : New w1 F1 F2) (hs : w.heap.size ≤ w1.heap.size) : New w F F2 := fun k hk => by
  rcases h2 k hk with g | g
  · exact h k g
  · exact .inr (Nat.le_trans hs g)
theorem Frm.refl (F : Bl) (w : World) : Frm F w w := ⟨rfl, rfl, rfl, Nat.le_refl _, fun _ _ _ => rfl⟩
theorem Frm.trans {F F1 : Bl} {w w1 w2 : World} (h : Frm F w w1) (h2 : Frm F1 w1 w2) (hn : New w F F1) : Frm F w w2 :=
  ⟨h2.os.trans h.os, h2.tape.trans h.tape, h2.output.trans h.output, Nat.le_trans h.size h2.size, fun k hk hf => (h2.block k (Nat.lt_of_lt_of_le hk h.size) (fun hc => by
    rcases hn k hc with g | g
    · exact hf g
    · omega)).trans (h.block k hk hf)⟩
theorem Frm.mono {F F1 : Bl} {w w1 : World} (h : Frm F w w1) (hs : ∀ k, F k → F1 k) : Frm F1 w w1 := ⟨h.os, h.tape, h.output, h.size, fun k hk hf => h.block k hk (fun g => hf (hs k g))⟩
theorem Frm.of_below {F : Bl} {w w1 : World} (h : Below w.heap.size w w1) : Frm F w w1 := ⟨h.os, h.tape, h.output, h.size, fun k hk _ => h.block k hk⟩
theorem Frm.below {F : Bl} {w w1 : World} {B : Nat} (h : Frm F w w1) (hF : ∀ k, F k → B ≤ k) (hB : B ≤ w.heap.size) : Below B w w1 :=
  ⟨h.os, h.tape, h.output, h.size, fun k hk => h.block k (Nat.lt_of_lt_of_le hk hB) (fun g => by have := hF k g; omega)⟩
theorem Frm.nothing {w w1 : World} (h : Frm (fun _ => False) w w1) : Below w.heap.size w w1 := h.below (fun _ h => h.elim) (Nat.le_refl _)
theorem Frm.drew {F : Bl} {w w1 : World} (h : Frm F w w1) : Frm F w w1.drew := ⟨h.os, h.tape, h.output, h.size, h.block⟩
theorem Frm.alloc {F : Bl} {w w1 : World} (h : Frm F w w1) (o : Obj) : Frm F w (w1.alloc o) := h.trans (Frm.of_below ((Below.refl _ _).alloc (Nat.le_refl _) _)) (New.refl _ _)
theorem Frm.set1 {F : Bl} (w : World) {g : Nat} (hg : F g) (o : Nat) (u : Value) : Frm F w (w.setCell ⟨g, o, none⟩ u) :=
  ⟨rfl, rfl, rfl, by simp [World.setCell], fun k _ hf => heap_setCell_other w ⟨g, o, none⟩ k u (fun e => hf (by simp at e; subst e; exact hg))⟩
theorem Frm.setCell {F : Bl} {w w1 : World} (h : Frm F w w1) {g : Nat} (hg : F g ∨ w.heap.size ≤ g) (o : Nat) (u : Value) : Frm F w (w1.setCell ⟨g, o, none⟩ u) :=
  h.trans (F1 := fun k => k = g) (Frm.set1 w1 (F := fun k => k = g) rfl o u) (fun k hk => by subst hk; exact hg)
theorem Frm.grown {F : Bl} {w w1 w2 : World} {row : Option Nat} (h : Frm F w w1) (hg : w1.grownBy w2 row) (hr : ∀ k, row = some k → F k ∨ w.heap.size ≤ k) : Frm F w w2 :=
  h.trans (F1 := fun k => row = some k) ⟨hg.os, hg.tape, hg.output, hg.size, fun k hk hf => hg.block k hk (fun e => hf e.symm)⟩ hr
theorem Frm.step {F : Bl} {w w1 w2 : World} (h : Frm F w w1) (hb : Below w1.heap.size w1 w2) : Frm F w w2 := h.trans (Frm.of_below (F := F) hb) (New.refl _ _)
theorem Frm.heap {F : Bl} {w w1 : World} (h : Frm F w w1) {g : Nat} (hg : g < w.heap.size) (hf : ¬ F g) : w1.heap[g]? = w.heap[g]? := h.block g hg hf
theorem Frm.cell {F : Bl} {w w1 : World} (h : Frm F w w1) {g : Nat} (hg : g < w.heap.size) (hf : ¬ F g) (o : Nat) : w1.cell? ⟨g, o, none⟩ = w.cell? ⟨g, o, none⟩ := World.cell?_of_block (a := ⟨g, o, none⟩) (h.block g hg hf)
theorem Frm.frozen {F : Bl} {w w1 : World} (h : Frm F w w1) {g : Nat} (hg : g < w.heap.size) (hf : ¬ F g) (o : Nat) : w1.frozen? ⟨g, o, none⟩ = w.frozen? ⟨g, o, none⟩ := World.frozen?_of_block (a := ⟨g, o, none⟩) (h.block g hg hf)
theorem Frm.isB {F : Bl} {w w1 : World} (h : Frm F w w1) {b off : Nat} {l : List Nat} (hb : IsB w b off l) (hf : 0 < l.length → ¬ F b) : IsB w1 b off l := by
  refine ⟨fun hl => Nat.lt_of_lt_of_le (hb.hb hl) h.size, fun i x hx => ?_, hb.lt⟩
  have hl : 0 < l.length := by have := (List.getElem?_eq_some_iff.1 hx).1; omega
  rw [h.cell (hb.hb hl) (hf hl)]
  exact hb.c i x hx
theorem Frm.ownsRow {F : Bl} {w w1 : World} (h : Frm F w w1) {base : Nat} {e : TypeId} {size : Nat} {v : Value} {n : Nat} {xs : List Value} (ho : w.ownsRow base e size v n xs) (hf : ∀ k, v.ownBlock = some k → ¬ F k) : w1.ownsRow base e size v n xs := by
  refine ⟨ho.1, ?_⟩
  rcases ho.2 with hn | ⟨g, cap, cur, rfl, hb, hg, rest⟩
  · exact .inl hn
  · exact .inr ⟨g, cap, cur, rfl, hb, (h.block g (Array.getElem?_eq_some_iff.1 hg).1 (hf g rfl)).trans hg, rest⟩

end Go.Proofs.YtkffomfbnbcgaaaGreatDoor

namespace Go.Proofs.YtkffomfbnbcgaaaGreatDoor
set_option maxRecDepth 100000
open Go.RowKit

/-- cells that lie in a world, not frozen -/
def Kp (w : World) (l : List (Nat × Nat × Value)) : Prop := ∀ x ∈ l, x.1 < w.heap.size ∧ w.cell? ⟨x.1, x.2.1, none⟩ = some x.2.2 ∧ w.frozen? ⟨x.1, x.2.1, none⟩ = false

theorem Kp.below {w w1 : World} {l : List (Nat × Nat × Value)} (h : Kp w l) (hb : Below w.heap.size w w1) : Kp w1 l := by
  obtain ⟨hc, hf⟩ := bcell hb
  intro x hx
  obtain ⟨a, b, c⟩ := h x hx
  exact ⟨Nat.lt_of_lt_of_le a hb.size, (hc _ _ a).trans b, (hf _ _ a).trans c⟩
theorem Kp.drew {w : World} {l : List (Nat × Nat × Value)} (h : Kp w l) : Kp w.drew l := h
theorem Kp.hd {w : World} {b o : Nat} {v : Value} {l : List (Nat × Nat × Value)} (h : Kp w ((b, o, v) :: l)) : w.cell? ⟨b, o, none⟩ = some v ∧ w.frozen? ⟨b, o, none⟩ = false := (h _ (List.mem_cons_self ..)).2
theorem Kp.lt {w : World} {b o : Nat} {v : Value} {l : List (Nat × Nat × Value)} (h : Kp w ((b, o, v) :: l)) : b < w.heap.size := (h _ (List.mem_cons_self ..)).1
theorem Kp.tl {w : World} {x : Nat × Nat × Value} {l : List (Nat × Nat × Value)} (h : Kp w (x :: l)) : Kp w l := fun y hy => h y (List.mem_cons_of_mem _ hy)
theorem Kp.two {w : World} {b o b' o' : Nat} {v v' : Value} {l : List (Nat × Nat × Value)} (h : Kp w ((b, o, v) :: (b', o', v') :: l)) :
    (w.cell? ⟨b, o, none⟩ = some v ∧ w.frozen? ⟨b, o, none⟩ = false) ∧ w.cell? ⟨b', o', none⟩ = some v' ∧ w.frozen? ⟨b', o', none⟩ = false := ⟨h.hd, h.tl.hd⟩

/-- a world on the way: below B it is as w was, and it has these cells -/
def Rg (B : Nat) (w wx : World) (l : List (Nat × Nat × Value)) : Prop := Below B w wx ∧ B ≤ wx.heap.size ∧ Kp wx l
theorem Rg.step {B : Nat} {w w0 w1 : World} {l : List (Nat × Nat × Value)} (h : Rg B w w0 l) (hb : Below w0.heap.size w0 w1) : Rg B w w1 l :=
  ⟨h.1.trans (hb.mono h.2.1), Nat.le_trans h.2.1 hb.size, h.2.2.below hb⟩
theorem Rg.drew {B : Nat} {w w0 : World} {l : List (Nat × Nat × Value)} (h : Rg B w w0 l) : Rg B w w0.drew l := ⟨h.1.drew, h.2.1, h.2.2⟩
theorem Rg.kp {B : Nat} {w w0 : World} {l : List (Nat × Nat × Value)} (h : Rg B w w0 l) : Kp w0 l := h.2.2
theorem Rg.bel {B : Nat} {w w0 : World} {l : List (Nat × Nat × Value)} (h : Rg B w w0 l) : Below B w w0 := h.1
theorem Rg.sub {B : Nat} {w w0 : World} {l l' : List (Nat × Nat × Value)} (h : Rg B w w0 l) (hs : ∀ x ∈ l', x ∈ l) : Rg B w w0 l' := ⟨h.1, h.2.1, fun x hx => h.2.2 x (hs x hx)⟩
theorem Rg.set {B : Nat} {w w0 : World} {b o : Nat} {v u : Value} {l : List (Nat × Nat × Value)} (h : Rg B w w0 ((b, o, v) :: l)) (hB : B ≤ b) (hne : ∀ x ∈ l, ¬ (x.1 = b ∧ x.2.1 = o)) :
    Rg B w (w0.setCell ⟨b, o, none⟩ u) ((b, o, u) :: l) := by
  obtain ⟨hc, hf⟩ := h.2.2.hd
  have hl := h.2.2.lt
  refine ⟨h.1.setCell hB u, by simpa [World.setCell] using h.2.1, fun x hx => ?_⟩
  rcases List.mem_cons.1 hx with rfl | hx
  · refine ⟨by simpa [World.setCell] using hl, ?_, ?_⟩
    · go_simp
    · simpa using hf
  · obtain ⟨a, c, d⟩ := h.2.2 x (List.mem_cons_of_mem _ hx)
    refine ⟨by simpa [World.setCell] using a, ?_, by simpa using d⟩
    rw [World.cell?_setCell_other _ _ _ _ (fun e => hne x hx (by injection e with e1 e2; exact ⟨e1.symm, e2.symm⟩))]
    exact c
theorem Kp.alloc {w : World} {l : List (Nat × Nat × Value)} (h : Kp w l) (o : Obj) : Kp (w.alloc o) l := h.below ((Below.refl _ _).alloc (Nat.le_refl _) _)
theorem Rg.alloc {B : Nat} {w w0 : World} {l : List (Nat × Nat × Value)} (h : Rg B w w0 l) (o : Obj) : Rg B w (w0.alloc o) l := h.step ((Below.refl _ _).alloc (Nat.le_refl _) _)
/-- the first cell goes to the end -/
theorem Rg.turn {B : Nat} {w w0 : World} {x : Nat × Nat × Value} {l : List (Nat × Nat × Value)} (h : Rg B w w0 (x :: l)) : Rg B w w0 (l ++ [x]) :=
  h.sub fun y hy => by rcases List.mem_append.1 hy with h | h; exact List.mem_cons_of_mem _ h; simp at h; subst h; exact List.mem_cons_self ..

/-- what a cell holds -/
def cval (w : World) (a : Addr) : Value := (w.cell? a).getD (.int .i64 0)
theorem cval_of {w : World} {a : Addr} {v : Value} (h : w.cell? a = some v) : w.cell? a = some (cval w a) := by unfold cval; rw [h]; rfl

/-- a world on the way: below it is as w was, these cells stay, and the cells of block g may be written -/
def Og (B g n : Nat) (w wx : World) (l : List (Nat × Nat × Value)) : Prop :=
  Rg B w wx l ∧ B ≤ g ∧ (∀ x ∈ l, x.1 ≠ g) ∧ g < wx.heap.size ∧ ∀ o, o < n → (∃ v, wx.cell? ⟨g, o, none⟩ = some v) ∧ wx.frozen? ⟨g, o, none⟩ = false
theorem Og.step {B g n : Nat} {w w0 w1 : World} {l : List (Nat × Nat × Value)} (h : Og B g n w w0 l) (hb : Below w0.heap.size w0 w1) : Og B g n w w1 l := by
  obtain ⟨hc, hf⟩ := bcell hb
  obtain ⟨a, b, c, d, e⟩ := h
  refine ⟨a.step hb, b, c, Nat.lt_of_lt_of_le d hb.size, fun o ho => ?_⟩
  obtain ⟨⟨v, hv⟩, f⟩ := e o ho
  exact ⟨⟨v, (hc _ _ d).trans hv⟩, (hf _ _ d).trans f⟩
theorem Og.drew {B g n : Nat} {w w0 : World} {l : List (Nat × Nat × Value)} (h : Og B g n w w0 l) : Og B g n w w0.drew l := ⟨h.1.drew, h.2.1, h.2.2.1, h.2.2.2.1, h.2.2.2.2⟩
theorem Og.set {B g n : Nat} {w w0 : World} {l : List (Nat × Nat × Value)} (h : Og B g n w w0 l) (o : Nat) (u : Value) : Og B g n w (w0.setCell ⟨g, o, none⟩ u) l := by
  obtain ⟨⟨a1, a2, a3⟩, b, c, d, e⟩ := h
  refine ⟨⟨a1.setCell b u, by simpa [World.setCell] using a2, fun x hx => ?_⟩, b, c, by simpa [World.setCell] using d, fun o' ho => ?_⟩
  · obtain ⟨p, q, r⟩ := a3 x hx
    refine ⟨by simpa [World.setCell] using p, ?_, by simpa using r⟩
    rw [World.cell?_setCell_other _ _ _ _ (fun e => c x hx (by injection e with e1 e2; exact e1.symm))]
    exact q
  · obtain ⟨⟨v, hv⟩, f⟩ := e o' ho
    refine ⟨?_, by simpa using f⟩
    by_cases ho' : o' = o
    · subst ho'
      exact ⟨u, by go_simp⟩
    · refine ⟨v, ?_⟩
      rw [World.cell?_setCell_other _ _ _ _ (fun e => ho' (by injection e with e1 e2; exact e2.symm))]
      exact hv
theorem Og.bel {B g n : Nat} {w w0 : World} {l : List (Nat × Nat × Value)} (h : Og B g n w w0 l) : Below B w w0 := h.1.1
theorem Og.kp {B g n : Nat} {w w0 : World} {l : List (Nat × Nat × Value)} (h : Og B g n w w0 l) : Kp w0 l := h.1.kp
theorem Og.own {B g n : Nat} {w w0 : World} {l : List (Nat × Nat × Value)} (h : Og B g n w w0 l) (o : Nat) (ho : o < n) : w0.cell? ⟨g, o, none⟩ = some (cval w0 ⟨g, o, none⟩) ∧ w0.frozen? ⟨g, o, none⟩ = false := by
  obtain ⟨⟨v, hv⟩, f⟩ := h.2.2.2.2 o ho
  exact ⟨cval_of hv, f⟩

end Go.Proofs.YtkffomfbnbcgaaaGreatDoor

namespace Go.Proofs.YtkffomfbnbcgaaaGreatDoor
set_option maxRecDepth 100000
open Go.RowKit Go.Joins Go.ChangeShapes Go.WideShapes
set_option linter.unusedVariables false
set_option linter.unusedSimpArgs false

def blL (c : Nat) : Bool := c == 32 || c == 9 || c == 10 || c == 13
def dgL (c : Nat) : Bool := decide (48 ≤ c) && decide (c ≤ 57)
def smL (c : Nat) : Bool := decide (97 ≤ c) && decide (c ≤ 122)
def cpL (c : Nat) : Bool := decide (65 ≤ c) && decide (c ≤ 90)
def bwL (c : Nat) : Bool := smL c || cpL c || c == 95
def iwL (c : Nat) : Bool := bwL c || dgL c
def inL (c : Nat) : Bool := iwL c && !cpL c
def nqL (c : Nat) : Bool := c != 39
/-- a function of the program's that tells a byte's sort -/
def Sort8 (g : Nat) (f : Nat → Bool) : Prop := ∀ (c : Nat) (w : World), c < 256 → Calls Tryz.prog g #[.int .u8 (c : Int)] w fun e w' => e = .returned (.bool (f c)) ∧ w = w'
theorem eqi (c k : Nat) : ((c : Int) == (k : Int)) = (c == k) := by
  by_cases h : c = k
  · subst h; simp
  · rw [show (c == k) = false by simpa using h]
    exact beq_eq_false_iff_ne.2 (by omega)
set_option maxHeartbeats 1000000 in
theorem blank_any : Sort8 48 blL := by
  intro c w hc
  have e1 : ((c : Int) == (32 : Int)) = (c == 32) := eqi c 32
  have e2 : ((c : Int) == (9 : Int)) = (c == 9) := eqi c 9
  have e3 : ((c : Int) == (10 : Int)) = (c == 10) := eqi c 10
  have e4 : ((c : Int) == (13 : Int)) = (c == 13) := eqi c 13
  unfold blL
  cases h1 : (c == 32) <;> cases h2 : (c == 9) <;> cases h3 : (c == 10) <;> cases h4 : (c == 13) <;> rw [h1] at e1 <;> rw [h2] at e2 <;> rw [h3] at e3 <;> rw [h4] at e4 <;> clear h1 h2 h3 h4
  all_goals
    go_enter Tryz.func48, Tryz.ntmps48
    go_wp2
    go_ret
    exact ⟨rfl, rfl⟩
theorem lei (a c : Nat) : decide ((a : Int) ≤ (c : Int)) = decide (a ≤ c) := by simp
set_option maxHeartbeats 1000000 in
theorem digit_any : Sort8 114 dgL := by
  intro c w hc
  have e1 : decide ((48 : Int) ≤ (c : Int)) = decide (48 ≤ c) := lei 48 c
  have e2 : decide ((c : Int) ≤ (57 : Int)) = decide (c ≤ 57) := lei c 57
  unfold dgL
  cases h1 : decide (48 ≤ c) <;> cases h2 : decide (c ≤ 57) <;> rw [h1] at e1 <;> rw [h2] at e2 <;> clear h1 h2
  all_goals
    go_enter Tryz.func114, Tryz.ntmps114
    go_wp2
    go_ret
    exact ⟨rfl, rfl⟩
set_option maxHeartbeats 1000000 in
theorem small_any : Sort8 162 smL := by
  intro c w hc
  have e1 : decide ((97 : Int) ≤ (c : Int)) = decide (97 ≤ c) := lei 97 c
  have e2 : decide ((c : Int) ≤ (122 : Int)) = decide (c ≤ 122) := lei c 122
  unfold smL
  cases h1 : decide (97 ≤ c) <;> cases h2 : decide (c ≤ 122) <;> rw [h1] at e1 <;> rw [h2] at e2 <;> clear h1 h2
  all_goals
    go_enter Tryz.func162, Tryz.ntmps162
    go_wp2
    go_ret
    exact ⟨rfl, rfl⟩
set_option maxHeartbeats 1000000 in
theorem cap_any : Sort8 163 cpL := by
  intro c w hc
  have e1 : decide ((65 : Int) ≤ (c : Int)) = decide (65 ≤ c) := lei 65 c
  have e2 : decide ((c : Int) ≤ (90 : Int)) = decide (c ≤ 90) := lei c 90
  unfold cpL
  cases h1 : decide (65 ≤ c) <;> cases h2 : decide (c ≤ 90) <;> rw [h1] at e1 <;> rw [h2] at e2 <;> clear h1 h2
  all_goals
    go_enter Tryz.func163, Tryz.ntmps163
    go_wp2
    go_ret
    exact ⟨rfl, rfl⟩
set_option maxHeartbeats 1000000 in
theorem noquote_any : Sort8 170 nqL := by
  intro c w hc
  have e1 : ((c : Int) == (39 : Int)) = (c == 39) := eqi c 39
  have e2 : ((c : Int) != (39 : Int)) = (c != 39) := by rw [bne, bne, e1]
  unfold nqL
  cases h2 : (c != 39) <;> rw [h2] at e2 <;> clear h2 e1
  all_goals
    go_enter Tryz.func170, Tryz.ntmps170
    go_wp2
    go_ret
    exact ⟨rfl, rfl⟩
set_option maxHeartbeats 2000000 in
theorem begins_any : Sort8 112 bwL := by
  intro c w hc
  have HS := Lib.hid (small_any c w hc)
  have HC := Lib.hid (cap_any c w hc)
  have e1 : ((c : Int) == (95 : Int)) = (c == 95) := eqi c 95
  unfold bwL
  cases h1 : smL c <;> cases h2 : cpL c <;> cases h3 : (c == 95) <;> rw [h1] at HS <;> rw [h2] at HC <;> rw [h3] at e1 <;> clear h1 h2 h3
  all_goals
    go_enter Tryz.func112, Tryz.ntmps112
    go_wp2_with (first | (go_at_call 162; refine HS.out.mono ?_; rintro e w' ⟨rfl, rfl⟩) | (go_at_call 163; refine HC.out.mono ?_; rintro e w' ⟨rfl, rfl⟩))
    go_ret
    exact ⟨rfl, rfl⟩
set_option maxHeartbeats 2000000 in
theorem inword_any : Sort8 164 iwL := by
  intro c w hc
  have HS := Lib.hid (begins_any c w hc)
  have HC := Lib.hid (digit_any c w hc)
  unfold iwL
  cases h1 : bwL c <;> cases h2 : dgL c <;> rw [h1] at HS <;> rw [h2] at HC <;> clear h1 h2
  all_goals
    go_enter Tryz.func164, Tryz.ntmps164
    go_wp2_with (first | (go_at_call 112; refine HS.out.mono ?_; rintro e w' ⟨rfl, rfl⟩) | (go_at_call 114; refine HC.out.mono ?_; rintro e w' ⟨rfl, rfl⟩))
    go_ret
    exact ⟨rfl, rfl⟩
set_option maxHeartbeats 2000000 in
theorem inname_any : Sort8 151 inL := by
  intro c w hc
  have HS := Lib.hid (inword_any c w hc)
  have HC := Lib.hid (cap_any c w hc)
  unfold inL
  cases h1 : iwL c <;> cases h2 : cpL c <;> rw [h1] at HS <;> rw [h2] at HC <;> clear h1 h2
  all_goals
    go_enter Tryz.func151, Tryz.ntmps151
    go_wp2_with (first | (go_at_call 164; refine HS.out.mono ?_; rintro e w' ⟨rfl, rfl⟩) | (go_at_call 163; refine HC.out.mono ?_; rintro e w' ⟨rfl, rfl⟩))
    go_ret
    exact ⟨rfl, rfl⟩

/-- how many bytes of a sort stand ahead -/
def runL (f : Nat → Bool) : List Nat → Nat
  | [] => 0
  | c :: r => if f c then runL f r + 1 else 0
theorem runL_cons (f : Nat → Bool) (c : Nat) (r : List Nat) : runL f (c :: r) = if f c then runL f r + 1 else 0 := rfl
theorem runL_le (f : Nat → Bool) : ∀ l, runL f l ≤ l.length
  | [] => Nat.le_refl _
  | c :: r => by
    unfold runL
    have := runL_le f r
    split <;> simp <;> omega
set_option maxHeartbeats 1000000 in
/-- the closure: a byte is not of a sort -/
theorem not_clo {g : Nat} {f : Nat → Bool} (hg : Sort8 g f) (henter : ∀ args w, (callFunc g args).run Tryz.prog w = .ok (.enter g args) w) (c : Nat) (hc : c < 256) (w : World) (b : Nat) (hb : w.cell? ⟨b, 0, none⟩ = some (.func (.func g) #[] #[])) :
    Calls Tryz.prog 161 #[.int .u8 (c : Int), .pointer (some ⟨b, 0, none⟩)] w fun e w' => e = .returned (.bool (!f c)) ∧ w = w' := by
  have HG := Lib.hid (hg c w hc)
  obtain ⟨v, hv⟩ : ∃ v, f c = v := ⟨_, rfl⟩
  rw [hv] at HG ⊢
  go_enter Tryz.func161, Tryz.ntmps161
  go_wp2_with (first | (go_at_fn g; refine HG.out.mono ?_; rintro e w' ⟨rfl, rfl⟩))
  go_ret
  exact ⟨rfl, rfl⟩
set_option maxHeartbeats 2000000 in
theorem index_any {g : Nat} {f : Nat → Bool} (hg : Sort8 g f) (henter : ∀ args w, (callFunc g args).run Tryz.prog w = .ok (.enter g args) w) (w : World) (bx : Nat) (hbx : w.cell? ⟨bx, 0, none⟩ = some (.func (.func g) #[] #[])) (a : Option Addr) (b off cap : Nat) (l : List Nat) (ha : l.length = 0 ∨ a = some ⟨b, off, none⟩) (hA : IsB w b off l) (hl : l.length ≤ 4294967296) :
    Calls Tryz.prog 160 #[.slice a l.length cap, .func (.func 161) #[] #[.pointer (some ⟨bx, 0, none⟩)]] w fun e w' => e = .returned (.int .i64 (if runL f l = l.length then -1 else (runL f l : Int))) ∧ w = w' := by
  obtain ⟨T, hT⟩ : ∃ T : Int, (if runL f l = l.length then -1 else (runL f l : Int)) = T := ⟨_, rfl⟩
  rw [hT]
  have HT := Lib.hid hT
  have HA := Lib.hid hA
  obtain ⟨n, en⟩ : ∃ n, l.length = n := ⟨_, rfl⟩
  have EN := Lib.hid en
  have HCL := Lib.hid (fun (c : Nat) (hc : c < 256) => not_clo hg henter c hc w bx hbx)
  rw [en] at hl ha ⊢
  have hent2 : ∀ args w, (callFunc 161 args).run Tryz.prog w = .ok (.enter 161 args) w := enters_of Tryz.func161 (by kernel_rfl) rfl
  clear hT hA en hbx
  go_enter Tryz.func160, Tryz.ntmps160
  go_wp2
  go_loopw [8] (fun i wr => ∃ k : Nat, k ≤ n ∧ i = .int .i64 k ∧ Hid (runL f l = k + runL f (l.drop k)) ∧ wr = w) (fun i _ => n - (intOf i).toNat)
  case atStart => exact ⟨0, Nat.zero_le _, rfl, by show runL f l = 0 + runL f (l.drop 0); simp, rfl⟩
  case round =>
    obtain ⟨k, hk, rfl, HR, rfl⟩ := hrel
    by_cases c : k < n
    · have c1 : (k : Int) < (n : Int) := by omega
      obtain rfl : a = some ⟨b, off, none⟩ := by rcases ha with h | h; omega; exact h
      have hx : l[k]? = some (l[k]'(by rw [EN.out]; exact c)) := List.getElem?_eq_getElem _
      generalize l[k]'(by rw [EN.out]; exact c) = x at *
      have d0 := HA.out.c k x hx
      have hx8 : x < 256 := HA.out.lt x (List.mem_of_getElem? hx)
      have hr := HR.out
      have hd : l.drop k = x :: l.drop (k + 1) := by
        obtain ⟨h1, h2⟩ := List.getElem?_eq_some_iff.1 hx
        rw [List.drop_eq_getElem_cons h1, h2]
      rw [hd, runL_cons] at hr
      have HC := Lib.hid (HCL.out x hx8)
      cases hv : f x with
      | true =>
        rw [hv] at HC hr
        have HR2 := Lib.hid (show runL f l = (k + 1) + runL f (l.drop (k + 1)) by rw [if_pos rfl] at hr; omega)
        clear hr hd hx HR hv
        go_wp2_with (first | (go_at_fn 161; refine HC.out.mono ?_; rintro e w' ⟨rfl, rfl⟩))
        exact ⟨⟨k + 1, by omega, by simp, HR2, by trivial⟩, by simp [intOf]; omega⟩
      | false =>
        rw [hv] at HC hr
        have hk3 : runL f l = k := by simpa using hr
        have hT2 : T = (k : Int) := by rw [← HT.out, hk3, EN.out, if_neg (by omega)]
        clear hr hd hx HR hv hk3
        go_wp2_with (first | (go_at_fn 161; refine HC.out.mono ?_; rintro e w' ⟨rfl, rfl⟩))
        go_ret
        exact ⟨ret_i hT2.symm, rfl⟩
    · have c1 : ¬ (k : Int) < (n : Int) := by omega
      obtain rfl : k = n := by omega
      have hT2 : T = -1 := by
        have hr := HR.out
        rw [List.drop_eq_nil_of_le (by rw [EN.out]; exact Nat.le_refl _)] at hr
        have : runL f l = l.length := by rw [hr, EN.out]; rfl
        rw [← HT.out, if_pos this]
      clear HR
      go_wp2_with fail
      go_ret
      exact ⟨rfl, rfl⟩
set_option maxHeartbeats 1000000 in
theorem run_any {g : Nat} {f : Nat → Bool} (hg : Sort8 g f) (henter : ∀ args w, (callFunc g args).run Tryz.prog w = .ok (.enter g args) w) (w : World) (a : Option Addr) (b off cap : Nat) (l : List Nat) (ha : l.length = 0 ∨ a = some ⟨b, off, none⟩) (hA : IsB w b off l) (hl : l.length ≤ 4294967296) :
    Calls Tryz.prog 111 #[.slice a l.length cap, .func (.func g) #[] #[]] w fun e w' => e = .returned (.int .i64 (runL f l : Nat)) ∧ Below w.heap.size w w' := by
  have hle := runL_le f l
  have b1 : Below w.heap.size w (w.alloc (.cells #[.func (.func g) #[] #[]] 94)) := (Below.refl _ _).alloc (Nat.le_refl _) _
  have HI := Lib.hid (index_any hg henter (w.alloc (.cells #[.func (.func g) #[] #[]] 94)) w.heap.size (by rw [cell_of_block (heap_alloc_new w _)]; rfl) a b off cap l ha (hA.below b1) hl)
  have HB := Lib.hid b1
  obtain ⟨r, hr⟩ : ∃ r, runL f l = r := ⟨_, rfl⟩
  obtain ⟨n, en⟩ : ∃ n, l.length = n := ⟨_, rfl⟩
  rw [hr, en] at HI hle
  rw [hr, en]
  clear b1 hr en hA ha
  by_cases c : r = n
  · rw [if_pos c] at HI
    go_enter Tryz.func111, Tryz.ntmps111
    go_wp2_with (first | (go_at_call 160; refine HI.out.mono ?_; rintro e w' ⟨rfl, rfl⟩))
    go_ret
    exact ⟨ret_i (by rw [c]), HB.out⟩
  · rw [if_neg c] at HI
    have c2 : decide ((r : Int) < 0) = false := by simp
    go_enter Tryz.func111, Tryz.ntmps111
    go_wp2_with (first | (go_at_call 160; refine HI.out.mono ?_; rintro e w' ⟨rfl, rfl⟩))
    go_ret
    exact ⟨rfl, HB.out⟩

end Go.Proofs.YtkffomfbnbcgaaaGreatDoor

namespace Go.Proofs.YtkffomfbnbcgaaaGreatDoor
set_option maxRecDepth 100000
open Go.RowKit Go.Joins Go.ChangeShapes Go.WideShapes
set_option linter.unusedVariables false
set_option linter.unusedSimpArgs false

/-- a token: its kind, its text, its number, its scale -/
structure Tk where
  kind : Nat
  text : List Nat
  num : Nat
  scale : Nat
deriving DecidableEq
def lowL (c : Nat) : Nat := if cpL c then c + 32 else c
def decL (l : List Nat) : Nat := l.foldl (fun n c => n * 10 + (c - 48)) 0
/-- the text between quotes, and how many bytes it takes with its closing quote -/
def textL : List Nat → Option (List Nat × Nat)
  | [] => none
  | c :: r => if c = 39 then (match r with
      | [] => some ([], 1)
      | d :: r' => if d = 39 then (textL r').map (fun x => (39 :: x.1, x.2 + 2)) else some ([], 1))
    else (textL r).map (fun x => (c :: x.1, x.2 + 1))
def signL (l : List Nat) : Nat := match l with
  | [] => 0
  | c :: r =>
    if (match r with
      | [] => false
      | d :: _ => (c == 60 && d == 62) || (c == 60 && d == 61) || (c == 62 && d == 61) || (c == 124 && d == 124)) then 2
    else if [40, 41, 44, 46, 42, 43, 45, 47, 37, 61, 60, 62].contains c then 1 else 0
/-- the token with which bytes begin, and how many it takes; or the error -/
def tokC (c : Nat) (r l : List Nat) : Except Nat (Tk × Nat) :=
    if bwL c then (if runL iwL l > 32 then .error 122 else .ok (⟨1, (l.take (runL iwL l)).map lowL, 0, 0⟩, runL iwL l))
    else if dgL c then
      (if (match l.drop (runL dgL l) with
          | p :: d :: _ => p == 46 && dgL d
          | _ => false) then
        (if runL dgL l + runL dgL (l.drop (runL dgL l + 1)) > 15 then .error 11
         else .ok (⟨3, [], decL (l.take (runL dgL l) ++ (l.drop (runL dgL l + 1)).take (runL dgL (l.drop (runL dgL l + 1)))), runL dgL (l.drop (runL dgL l + 1))⟩, runL dgL l + 1 + runL dgL (l.drop (runL dgL l + 1))))
       else (if runL dgL l > 19 ∨ 9223372036854775807 < decL (l.take (runL dgL l)) then .error 11 else .ok (⟨2, [], decL (l.take (runL dgL l)), 0⟩, runL dgL l)))
    else if c = 39 then (match textL r with
      | none => .error 121
      | some x => if x.1.length > 200 then .error 1 else .ok (⟨4, x.1, 0, 0⟩, x.2 + 1))
    else if signL l = 0 then .error 120 else .ok (⟨5, l.take (signL l), 0, 0⟩, signL l)
/-- a point with a digit behind it stands ahead -/
def fracL (l : List Nat) : Bool := match l with
  | p :: d :: _ => p == 46 && dgL d
  | _ => false
theorem tokC_eq (c : Nat) (r l : List Nat) : tokC c r l =
    if bwL c then (if runL iwL l > 32 then .error 122 else .ok (⟨1, (l.take (runL iwL l)).map lowL, 0, 0⟩, runL iwL l))
    else if dgL c then
      (if fracL (l.drop (runL dgL l)) then
        (if runL dgL l + runL dgL (l.drop (runL dgL l + 1)) > 15 then .error 11
         else .ok (⟨3, [], decL (l.take (runL dgL l) ++ (l.drop (runL dgL l + 1)).take (runL dgL (l.drop (runL dgL l + 1)))), runL dgL (l.drop (runL dgL l + 1))⟩, runL dgL l + 1 + runL dgL (l.drop (runL dgL l + 1))))
       else (if runL dgL l > 19 ∨ 9223372036854775807 < decL (l.take (runL dgL l)) then .error 11 else .ok (⟨2, [], decL (l.take (runL dgL l)), 0⟩, runL dgL l)))
    else if c = 39 then (match textL r with
      | none => .error 121
      | some x => if x.1.length > 200 then .error 1 else .ok (⟨4, x.1, 0, 0⟩, x.2 + 1))
    else if signL l = 0 then .error 120 else .ok (⟨5, l.take (signL l), 0, 0⟩, signL l) := rfl
def tokL : List Nat → Except Nat (Tk × Nat)
  | [] => .error 120
  | c :: r => tokC c r (c :: r)
theorem tokL_cons (c : Nat) (r : List Nat) : tokL (c :: r) = tokC c r (c :: r) := rfl
def lexGo : Nat → List Nat → Except Nat (List Tk)
  | 0, _ => .ok []
  | n + 1, l => match l.drop (runL blL l) with
    | [] => .ok []
    | c :: r => match tokL (c :: r) with
      | .error e => .error e
      | .ok (t, k) => match lexGo n ((c :: r).drop k) with
        | .error e => .error e
        | .ok ts => .ok (t :: ts)
/-- the tokens of a text that isn't too long -/
def lexL (l : List Nat) : Except Nat (List Tk) := lexGo (l.length + 1) l

/-! a blank behind -/
theorem blk_cases {e : Nat} (h : blL e = true) : e = 32 ∨ e = 9 ∨ e = 10 ∨ e = 13 := by
  unfold blL at h
  simp only [Bool.or_eq_true, beq_iff_eq] at h
  omega
theorem runL_app {f : Nat → Bool} {e : Nat} (hf : f e = false) (b : List Nat) : ∀ l, runL f (l ++ e :: b) = runL f l
  | [] => by show runL f (e :: b) = 0; rw [runL_cons, hf]; rfl
  | c :: r => by
    show runL f (c :: (r ++ e :: b)) = _
    rw [runL_cons, runL_cons, runL_app hf b r]
theorem drop_app {α : Type} (l b : List α) (k : Nat) (hk : k ≤ l.length) : (l ++ b).drop k = l.drop k ++ b := by
  rw [List.drop_append]
  rw [show k - l.length = 0 by omega]; rfl
theorem take_app {α : Type} (l b : List α) (k : Nat) (hk : k ≤ l.length) : (l ++ b).take k = l.take k := by
  rw [List.take_append]
  rw [show k - l.length = 0 by omega]; simp
theorem textL_app {e : Nat} (he : e ≠ 39) (b : List Nat) : ∀ (l : List Nat) (x : List Nat × Nat), textL l = some x → textL (l ++ e :: b) = some x ∧ x.2 ≤ l.length
  | [], x, h => by simp [textL] at h
  | [c], x, h => by
    unfold textL at h
    by_cases c1 : c = 39
    · rw [if_pos c1] at h
      injection h with h
      subst h c1
      exact ⟨by simp [textL, he], by simp⟩
    · rw [if_neg c1] at h
      simp [textL] at h
  | c :: d :: r, x, h => by
    unfold textL at h
    by_cases c1 : c = 39
    · rw [if_pos c1] at h
      by_cases d1 : d = 39
      · simp only [d1, if_true] at h
        cases hr : textL r with
        | none => rw [hr] at h; simp at h
        | some y =>
          rw [hr] at h
          simp only [Option.map_some, Option.some.injEq] at h
          obtain ⟨h1, h2⟩ := textL_app he b r y hr
          subst h c1 d1
          refine ⟨?_, by simp; omega⟩
          show textL (39 :: 39 :: (r ++ e :: b)) = _
          unfold textL
          simp [h1]
      · simp only [d1, if_false, Option.some.injEq] at h
        subst h c1
        refine ⟨?_, by simp⟩
        show textL (39 :: d :: (r ++ e :: b)) = _
        unfold textL
        simp [d1]
    · rw [if_neg c1] at h
      cases hr : textL (d :: r) with
      | none => rw [hr] at h; simp at h
      | some y =>
        rw [hr] at h
        simp only [Option.map_some, Option.some.injEq] at h
        obtain ⟨h1, h2⟩ := textL_app he b (d :: r) y hr
        subst h
        refine ⟨?_, by simp at h2 ⊢; omega⟩
        have h1' : textL (d :: (r ++ e :: b)) = some y := h1
        show textL (c :: d :: (r ++ e :: b)) = _
        rw [textL.eq_def]
        simp only [c1, if_false]
        rw [h1']
        rfl
theorem signL_app {e : Nat} (he : blL e = true) (b l : List Nat) (h : signL l ≠ 0) : signL (l ++ e :: b) = signL l ∧ signL l ≤ l.length := by
  have he4 := blk_cases he
  match l with
  | [] => exact absurd rfl h
  | [c] =>
    unfold signL at h ⊢
    simp only [List.cons_append, List.nil_append] at h ⊢
    simp only [show ((c == 60 && e == 62) || (c == 60 && e == 61) || (c == 62 && e == 61) || (c == 124 && e == 124)) = false by rcases he4 with rfl | rfl | rfl | rfl <;> simp, Bool.false_eq_true, if_false] at h ⊢
    refine ⟨trivial, ?_⟩
    split <;> simp
  | c :: d :: r =>
    unfold signL
    simp only [List.cons_append]
    refine ⟨trivial, ?_⟩
    split
    · simp
    · split <;> simp

theorem runL_take {f : Nat → Bool} {e : Nat} (l b : List Nat) (hf : f e = false) : (l ++ e :: b).take (runL f l) = l.take (runL f l) ∧ (l ++ e :: b).drop (runL f l) = l.drop (runL f l) ++ e :: b :=
  ⟨take_app _ _ _ (runL_le f l), drop_app _ _ _ (runL_le f l)⟩
theorem cond_app {e : Nat} (he : blL e = true) (b l : List Nat) : (match l ++ e :: b with
    | p :: d :: _ => p == 46 && dgL d
    | _ => false) = (match l with
    | p :: d :: _ => p == 46 && dgL d
    | _ => false) := by
  match l with
  | [] =>
    cases b with
    | nil => rfl
    | cons d q =>
      show (e == 46 && dgL d) = false
      rcases blk_cases he with rfl | rfl | rfl | rfl <;> rfl
  | [p] =>
    show (p == 46 && dgL e) = false
    rw [show dgL e = false by rcases blk_cases he with rfl | rfl | rfl | rfl <;> rfl, Bool.and_false]
  | p :: d :: r => rfl
/-- a token stays, whatever stands behind a blank behind it -/
theorem tokL_app {e : Nat} (he : blL e = true) (b l : List Nat) (t : Tk) (k : Nat) (h : tokL l = .ok (t, k)) : tokL (l ++ e :: b) = .ok (t, k) ∧ k ≤ l.length ∧ 0 < k := by
  match l with
  | [] => simp [tokL] at h
  | c :: r =>
    have i32 : iwL e = false := by rcases blk_cases he with rfl | rfl | rfl | rfl <;> rfl
    have d32 : dgL e = false := by rcases blk_cases he with rfl | rfl | rfl | rfl <;> rfl
    have q32 : e ≠ 39 := by rcases blk_cases he with rfl | rfl | rfl | rfl <;> decide
    have happ : (c :: r) ++ e :: b = c :: (r ++ e :: b) := rfl
    have hrw := runL_app (f := iwL) i32 b (c :: r)
    have hrd := runL_app (f := dgL) d32 b (c :: r)
    obtain ⟨w1, w2⟩ := runL_take (f := iwL) (c :: r) b i32
    obtain ⟨g1, g2⟩ := runL_take (f := dgL) (c :: r) b d32
    have hle := runL_le iwL (c :: r)
    have hld := runL_le dgL (c :: r)
    rw [happ] at hrw hrd w1 w2 g1 g2 ⊢
    rw [tokL_cons] at h ⊢
    unfold tokC at h ⊢
    by_cases c1 : bwL c = true
    · rw [if_pos c1] at h ⊢
      rw [hrw, w1]
      have hp : 0 < runL iwL (c :: r) := by rw [runL_cons, if_pos (by unfold iwL; rw [c1]; rfl)]; omega
      split at h
      · cases h
      · next q =>
        rw [if_neg q]
        injection h with h
        injection h with h1 h2
        subst h1 h2
        exact ⟨rfl, hle, hp⟩
    · rw [if_neg c1] at h ⊢
      by_cases c2 : dgL c = true
      · rw [if_pos c2] at h ⊢
        have hp : 0 < runL dgL (c :: r) := by rw [runL_cons, if_pos c2]; omega
        rw [hrd, g1, g2, cond_app he]
        have hk2 : (match (c :: r).drop (runL dgL (c :: r)) with
            | p :: d :: _ => p == 46 && dgL d
            | _ => false) = true → (c :: (r ++ e :: b)).drop (runL dgL (c :: r) + 1) = (c :: r).drop (runL dgL (c :: r) + 1) ++ e :: b ∧ runL dgL (c :: r) + 1 ≤ (c :: r).length := by
          intro hq
          have hl : runL dgL (c :: r) + 1 ≤ (c :: r).length := by
            cases ee : (c :: r).drop (runL dgL (c :: r)) with
            | nil => rw [ee] at hq; cases hq
            | cons p q =>
              have := congrArg List.length ee
              rw [List.length_drop] at this
              simp only [List.length_cons] at this ⊢
              omega
          exact ⟨drop_app (c :: r) (e :: b) _ hl, hl⟩
        generalize (match (c :: r).drop (runL dgL (c :: r)) with
            | p :: d :: _ => p == 46 && dgL d
            | _ => false) = cnd at h hk2 ⊢
        cases cnd with
        | true =>
          obtain ⟨e1, e2⟩ := hk2 rfl
          rw [if_pos rfl] at h ⊢
          rw [e1]
          have hr2 := runL_app (f := dgL) d32 b ((c :: r).drop (runL dgL (c :: r) + 1))
          have hl2 := runL_le dgL ((c :: r).drop (runL dgL (c :: r) + 1))
          rw [hr2, take_app _ _ _ hl2]
          split at h
          · cases h
          · next q =>
            rw [if_neg q]
            injection h with h
            injection h with h1 h2
            subst h1 h2
            refine ⟨rfl, ?_, by omega⟩
            rw [List.length_drop] at hl2
            omega
        | false =>
          rw [if_neg (by decide)] at h ⊢
          split at h
          · cases h
          · next q =>
            rw [if_neg q]
            injection h with h
            injection h with h1 h2
            subst h1 h2
            exact ⟨rfl, hld, hp⟩
      · rw [if_neg c2] at h ⊢
        by_cases c3 : c = 39
        · rw [if_pos c3] at h ⊢
          cases hx : textL r with
          | none => rw [hx] at h; cases h
          | some x =>
            obtain ⟨t1, t2⟩ := textL_app q32 b r x hx
            rw [hx] at h
            rw [t1]
            simp only at h ⊢
            split at h
            · cases h
            · next q =>
              rw [if_neg q]
              injection h with h
              injection h with h1 h2
              subst h1 h2
              exact ⟨rfl, by simp; omega, by omega⟩
        · rw [if_neg c3] at h ⊢
          by_cases c4 : signL (c :: r) = 0
          · rw [if_pos c4] at h; cases h
          · rw [if_neg c4] at h
            obtain ⟨s1, s2⟩ := signL_app he b (c :: r) c4
            rw [happ] at s1
            rw [s1, if_neg c4, ← happ, take_app _ _ _ s2]
            injection h with h
            injection h with h1 h2
            subst h1 h2
            exact ⟨rfl, s2, by omega⟩

end Go.Proofs.YtkffomfbnbcgaaaGreatDoor
