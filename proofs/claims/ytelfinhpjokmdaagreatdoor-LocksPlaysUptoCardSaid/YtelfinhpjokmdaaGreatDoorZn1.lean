/-
  Texts of mine put together, in build order.
  Conditions: as each declaration says.
-/
import Derived.Test.YtelfinhpjokmdaaGreatDoorRows
import Derived.WalkKit
import Derived.Lib.Hide
import Derived.Below
import Derived.OwnWalk
import Derived.Laws.AppendOwn
import Derived.Laws.OwnMore
import Derived.Deep.AppendLies
import Derived.Deep.DeepMust
import Derived.Laws.BytesArg
import Derived.Lib.SmallJoins
import Derived.Laws.FloatArith
import Derived.WalkLawsBesides
import Derived.Laws.Bits64b
import Derived.Laws.Externs
import Derived.Deep.DeepCutAuto
import Derived.Deep.QuietTactic
import Derived.BigQuiet
import Derived.Maps.Range
namespace Go.Proofs.YtelfinhpjokmdaaGreatDoor
set_option maxRecDepth 100000
open Go.RowKit

theorem bcell {W w1 : World} (hb : Below W.heap.size W w1) : (∀ b o, b < W.heap.size → w1.cell? ⟨b, o, none⟩ = W.cell? ⟨b, o, none⟩) ∧ (∀ b o, b < W.heap.size → w1.frozen? ⟨b, o, none⟩ = W.frozen? ⟨b, o, none⟩) :=
  ⟨fun b o h => hb.cell (p := ⟨b, o, none⟩) h, fun b o h => hb.frozen (p := ⟨b, o, none⟩) h⟩

theorem same' {P : Program} {f : FuncId} {args : Array Value} {w : World} {v : Value} (h : Calls P f args w fun e w' => e = .returned v ∧ w = w') : Calls P f args w fun e w' => e = .returned v ∧ w' = w :=
  h.mono fun _ _ ⟨a, b⟩ => ⟨a, b.symm⟩

end Go.Proofs.YtelfinhpjokmdaaGreatDoor

namespace Go.Proofs.YtelfinhpjokmdaaGreatDoor
set_option maxRecDepth 100000
open Go.RowKit Go.Joins Go.ChangeShapes Go.WideShapes
set_option linter.unusedVariables false

theorem infoB : (Tryz.prog.info? 5).map (fun i => (i.zero, i.size, i.bytes)) = some (some (.int .u8 0), 1, 1) := by kernel_rfl

/-- the cells of a list of bytes -/
def bcells (l : List Nat) : List Value := l.map fun n : Nat => .int .u8 (n : Int)
theorem bcells_length (l : List Nat) : (bcells l).length = l.length := by simp [bcells]
theorem bcells_app (l r : List Nat) : bcells (l ++ r) = bcells l ++ bcells r := List.map_append
theorem bcells_one (l : List Nat) : ∀ u ∈ bcells l, u.oneCell' = true := by
  intro u hu
  obtain ⟨n, -, rfl⟩ := List.mem_map.1 hu
  rfl

/-- a slice of bytes that the call has made, from block 'base' on -/
def OwB (w : World) (base : Nat) (v : Value) (l : List Nat) : Prop := w.ownsRow base 5 1 v l.length (bcells l) ∧ v ≠ .slice none 0 0

theorem OwB.form {w : World} {base : Nat} {v : Value} {l : List Nat} (h : OwB w base v l) : ∃ g cap, v = .slice (some ⟨g, 0, none⟩) l.length cap ∧ base ≤ g ∧ g < w.heap.size ∧ ∀ j u, (bcells l)[j]? = some u → w.cell? ⟨g, j, none⟩ = some u := by
  obtain ⟨⟨h1, h2⟩, h3⟩ := h
  rcases h2 with ⟨e, _⟩ | ⟨g, cap, cur, e, hb, hg, hn, hc, hs, ht⟩
  · exact absurd e h3
  · refine ⟨g, cap, e, hb, (Array.getElem?_eq_some_iff.1 hg).1, fun j u hj => ?_⟩
    rw [cell_of_block hg j]
    rw [← ht, List.getElem?_take] at hj
    split at hj
    · rw [← Array.getElem?_toList]; exact hj
    · cases hj
theorem OwB.lt {w : World} {base : Nat} {v : Value} {l : List Nat} (h : OwB w base v l) : ∀ k, v.ownBlock = some k → base ≤ k ∧ k < w.heap.size := fun k hk => h.1.lt k hk
theorem OwB.alloc {w : World} {base : Nat} {v : Value} {l : List Nat} (h : OwB w base v l) (o : Obj) : OwB (w.alloc o) base v l := ⟨h.1.alloc o, h.2⟩
theorem OwB.below {w w' : World} {base : Nat} {v : Value} {l : List Nat} (h : OwB w base v l) (hb : Below w.heap.size w w') : OwB w' base v l :=
  ⟨h.1.kept (row := none) ⟨hb.os, hb.tape, hb.output, hb.size, fun i hi _ => hb.block i hi⟩ (by cases v.ownBlock <;> simp), h.2⟩
theorem OwB.le {w : World} {base base' : Nat} {v : Value} {l : List Nat} (h : OwB w base v l) (hb : base' ≤ base) : OwB w base' v l := ⟨ownsRow_le h.1 hb, h.2⟩

theorem own_ne {w : World} {base : Nat} {e : TypeId} {size : Nat} {v : Value} {n : Nat} {xs : List Value} {g : Nat} {cs : Array Value} {ty : TypeId} {fz : Nat × Nat} (h : w.ownsRow base e size v n xs) (hg : w.heap[g]? = some (.cells cs ty fz)) (hne : ty ≠ e) : v.ownBlock ≠ some g := by
  rcases h.2 with ⟨rfl, _⟩ | ⟨g', cap, cur, rfl, _, hg', _⟩
  · simp [Value.ownBlock]
  · intro hx
    simp only [Value.ownBlock, Option.some.injEq] at hx
    subst hx
    rw [hg] at hg'
    injection hg' with hg'
    injection hg' with _ h2 _
    exact hne h2

/-- one byte, two bytes that were just put together -/
theorem news1 (w : World) (x : Nat) : ∀ j u, (bcells [x])[j]? = some u → (w.alloc (.cells #[.int .u8 (x : Int)] 5)).cell? ((⟨w.heap.size, 0, none⟩ : Addr).add j) = some u :=
  World.news_of_block (cs := #[.int .u8 (x : Int)]) (heap_alloc_new w _)
theorem news2 (w : World) (x y : Nat) : ∀ j u, (bcells [x, y])[j]? = some u → (w.alloc (.cells #[.int .u8 (x : Int), .int .u8 (y : Int)] 5)).cell? ((⟨w.heap.size, 0, none⟩ : Addr).add j) = some u :=
  World.news_of_block (cs := #[.int .u8 (x : Int), .int .u8 (y : Int)]) (heap_alloc_new w _)
theorem news1' (w : World) (x : Nat) (z : Int) (hz : z = (x : Int)) : ∀ j u, (bcells [x])[j]? = some u → (w.alloc (.cells #[.int .u8 z] 5)).cell? ((⟨w.heap.size, 0, none⟩ : Addr).add j) = some u := by
  subst hz
  exact news1 w x
theorem add0 (g j : Nat) : (⟨g, 0, none⟩ : Addr).add j = ⟨g, j, none⟩ := by unfold Addr.add; split <;> simp_all

/-- the state of a loop that writes bytes: what was there stays, the bytes so far -/
structure En (W w : World) (B : Nat) (v : Value) (l : List Nat) : Prop where
  own : OwB w B v l
  bel : Below B W w
  sz : B ≤ w.heap.size
theorem En.alloc {W w : World} {B : Nat} {v : Value} {l : List Nat} (h : En W w B v l) (o : Obj) : En W (w.alloc o) B v l := ⟨h.own.alloc o, h.bel.alloc h.sz o, by simp; exact Nat.le_succ_of_le h.sz⟩
theorem En.step {W w w' : World} {B : Nat} {v : Value} {l : List Nat} (h : En W w B v l) (hb : Below w.heap.size w w') : En W w' B v l := ⟨h.own.below hb, h.bel.trans (hb.mono h.sz), Nat.le_trans h.sz hb.size⟩
theorem En.push {W w w' : World} {B : Nat} {v v' : Value} {l l' : List Nat} (h : En W w B v l) (ho : OwB w' B v' l') (hg : w.grownBy w' v.ownBlock) : En W w' B v' l' :=
  ⟨ho, h.bel.grown hg h.sz (fun k hk => (h.own.lt k hk).1), Nat.le_trans h.sz hg.size⟩

/-- the text of a list of bytes -/
def strB (l : List Nat) : ByteArray := strOfNums (l.map fun n : Nat => (n : Int))
/-- a text's bytes -/
def sl (s : ByteArray) : List Nat := s.data.toList.map fun b => b.toNat
theorem sl_length (s : ByteArray) : (sl s).length = s.size := by
  unfold sl
  rw [List.length_map, Array.length_toList]
  rfl
theorem sl_lt (s : ByteArray) : ∀ x ∈ sl s, x < 256 := by
  intro x hx
  obtain ⟨b, -, rfl⟩ := List.mem_map.1 hx
  exact b.toNat_lt
theorem strB_data (l : List Nat) : (strB l).data.toList = l.map fun n => UInt8.ofNat n := by
  unfold strB
  rw [strOfNums_data]
  simp
theorem sl_strB {l : List Nat} (h : ∀ x ∈ l, x < 256) : sl (strB l) = l := by
  unfold sl
  rw [strB_data, List.map_map]
  conv => rhs; rw [← List.map_id l]
  refine List.map_congr_left fun x hx => ?_
  simp only [Function.comp, id]
  rw [UInt8.toNat_ofNat']
  exact Nat.mod_eq_of_lt (h x hx)
theorem strB_sl (s : ByteArray) : strB (sl s) = s := by
  have h : (strB (sl s)).data.toList = s.data.toList := by
    rw [strB_data]
    unfold sl
    rw [List.map_map]
    conv => rhs; rw [← List.map_id s.data.toList]
    refine List.map_congr_left fun x hx => ?_
    simp
  have h2 : (strB (sl s)).data = s.data := Array.toList_inj.1 h
  cases hs : strB (sl s) with
  | mk d => rw [hs] at h2; cases s with | mk e => simp at h2; rw [h2]
theorem strB_inj {l r : List Nat} (hl : ∀ x ∈ l, x < 256) (hr : ∀ x ∈ r, x < 256) (h : strB l = strB r) : l = r := by
  rw [← sl_strB hl, ← sl_strB hr, h]

end Go.Proofs.YtelfinhpjokmdaaGreatDoor

namespace Go.Proofs.YtelfinhpjokmdaaGreatDoor
set_option maxRecDepth 100000
open Ieee

def rnan (b : Nat) : Bool := double.order b b != some .eq
def sg (b : Nat) : Bool := b / 9223372036854775808 % 2 == 1
def rg (b : Nat) : Nat := b % 9223372036854775808
def INF : Nat := 9218868437227405312
def M (r : Nat) : Nat := if r < 4503599627370496 then r else 4503599627370496 + r % 4503599627370496
def E (r : Nat) : Nat := r / 4503599627370496 - 1
def V (r : Nat) : Nat := M r * 2 ^ E r

theorem read_num (b : Nat) (h : rg b < INF) : double.read b = .number (sg b) (M (rg b)) (-1074 + (E (rg b) : Nat)) := by
  unfold Format.read
  have e1 : double.signWeight = 9223372036854775808 := by decide
  have e2 : double.binade = 4503599627370496 := by decide
  have e3 : double.infRung = 9218868437227405312 := by decide
  have e4 : double.leastPlace = -1074 := by decide
  rw [e1, e2, e3, e4]
  dsimp only
  change rg b < 9218868437227405312 at h
  change (if rg b < 4503599627370496 then Datum.number (sg b) (rg b) (-1074) else if rg b < 9218868437227405312 then Datum.number (sg b) (4503599627370496 + rg b % 4503599627370496) (-1074 + ((rg b / 4503599627370496 - 1 : Nat) : Int)) else _) = _
  unfold M E
  by_cases c : rg b < 4503599627370496
  · rw [if_pos c, if_pos c, Nat.div_eq_of_lt c]; rfl
  · rw [if_neg c, if_neg c, if_pos h]

theorem read_inf (b : Nat) (h : rg b = INF) : double.read b = .infinity (sg b) := by
  unfold Format.read
  have e1 : double.signWeight = 9223372036854775808 := by decide
  have e2 : double.binade = 4503599627370496 := by decide
  have e3 : double.infRung = 9218868437227405312 := by decide
  rw [e1, e2, e3]
  dsimp only
  change rg b = 9218868437227405312 at h
  change (if rg b < 4503599627370496 then _ else if rg b < 9218868437227405312 then _ else if rg b = 9218868437227405312 then Datum.infinity (sg b) else _) = _
  rw [if_neg (by omega), if_neg (by omega), if_pos h]

theorem read_nan (b : Nat) (h : INF < rg b) : ∃ n f, double.read b = .nan n f := by
  unfold Format.read
  have e1 : double.signWeight = 9223372036854775808 := by decide
  have e2 : double.binade = 4503599627370496 := by decide
  have e3 : double.infRung = 9218868437227405312 := by decide
  rw [e1, e2, e3]
  dsimp only
  change 9218868437227405312 < rg b at h
  change ∃ n f, (if rg b < 4503599627370496 then _ else if rg b < 9218868437227405312 then _ else if rg b = 9218868437227405312 then _ else Datum.nan (sg b) (rg b - 9218868437227405312)) = _
  rw [if_neg (by omega), if_neg (by omega), if_neg (by omega)]
  exact ⟨_, _, rfl⟩

theorem M_lt (r : Nat) : M r < 9007199254740992 := by unfold M; split <;> omega

theorem V_succ (r : Nat) : V r < V (r + 1) := by
  unfold V M E
  by_cases c : r + 1 < 4503599627370496
  · rw [if_pos (by omega), if_pos c, Nat.div_eq_of_lt (by omega), Nat.div_eq_of_lt c]; simp
  · by_cases c2 : r + 1 = 4503599627370496
    · obtain rfl : r = 4503599627370495 := by omega
      decide
    · rw [if_neg (by omega), if_neg c]
      by_cases c3 : r % 4503599627370496 + 1 < 4503599627370496
      · have h1 : (r + 1) / 4503599627370496 = r / 4503599627370496 := by omega
        have h2 : (r + 1) % 4503599627370496 = r % 4503599627370496 + 1 := by omega
        rw [h1, h2]
        exact Nat.mul_lt_mul_of_pos_right (by omega) (Nat.two_pow_pos _)
      · have h1 : (r + 1) / 4503599627370496 - 1 = (r / 4503599627370496 - 1) + 1 := by omega
        have h2 : (r + 1) % 4503599627370496 = 0 := by omega
        rw [h1, h2, Nat.pow_succ, Nat.mul_comm (2 ^ _) 2, ← Nat.mul_assoc]
        exact Nat.mul_lt_mul_of_pos_right (by omega) (Nat.two_pow_pos _)

theorem V_mono {r q : Nat} (h : r < q) : V r < V q := by
  induction q with
  | zero => omega
  | succ q ih =>
    by_cases c : r = q
    · subst c; exact V_succ _
    · exact Nat.lt_trans (ih (by omega)) (V_succ _)

theorem V_zero : V 0 = 0 := by decide

/-- a word's place in the order: its rung, with the sign -/
def pl (b : Nat) : Int := if sg b then -(rg b : Int) else (rg b : Int)

def sV (s : Bool) (r : Nat) : Int := if s then -(V r : Int) else (V r : Int)

theorem sV_lt (s t : Bool) (r q : Nat) : sV s r < sV t q ↔ (if s then -(r : Int) else r) < (if t then -(q : Int) else q) := by
  have z := V_zero
  have hr : r = 0 ∨ (0 < V r ∧ 0 < r) := by
    by_cases c : r = 0
    · exact .inl c
    · right; have := V_mono (r := 0) (q := r) (by omega); exact ⟨by omega, by omega⟩
  have hq : q = 0 ∨ (0 < V q ∧ 0 < q) := by
    by_cases c : q = 0
    · exact .inl c
    · right; have := V_mono (r := 0) (q := q) (by omega); exact ⟨by omega, by omega⟩
  rcases Nat.lt_trichotomy r q with c | c | c
  · have := V_mono c
    cases s <;> cases t <;> simp [sV] <;> omega
  · subst c
    rcases hr with rfl | hr
    · cases s <;> cases t <;> simp [sV, z]
    · cases s <;> cases t <;> simp [sV] <;> omega
  · have := V_mono c
    cases s <;> cases t <;> simp [sV] <;> omega

theorem sV_eq (s t : Bool) (r q : Nat) : sV s r = sV t q ↔ (if s then -(r : Int) else (r : Int)) = (if t then -(q : Int) else q) := by
  have h1 := sV_lt s t r q
  have h2 := sV_lt t s q r
  omega

theorem signed_shift (s : Bool) (m u k : Nat) : signed s m u * (2 ^ k : Nat) = signed s m (u + k) := by
  unfold signed
  have : m <<< (u + k) = m <<< u * 2 ^ k := by rw [Nat.shiftLeft_eq, Nat.shiftLeft_eq, Nat.pow_add, Nat.mul_assoc]
  rw [this]
  cases s <;> simp [Int.neg_mul]

theorem signed_V (s : Bool) (r : Nat) : signed s (M r) (E r) = sV s r := by
  unfold signed sV V
  rw [Nat.shiftLeft_eq]

theorem compare_scaled (a b : Int) (k : Nat) : compare a b = compare (a * (2 ^ k : Nat)) (b * (2 ^ k : Nat)) := by
  have hk : (0 : Int) < ((2 ^ k : Nat) : Int) := by have := Nat.two_pow_pos k; omega
  simp only [compare, compareOfLessAndEq]
  have h1 : a < b ↔ a * ((2 ^ k : Nat) : Int) < b * ((2 ^ k : Nat) : Int) := (Int.mul_lt_mul_right hk).symm
  have h2 : a = b ↔ a * ((2 ^ k : Nat) : Int) = b * ((2 ^ k : Nat) : Int) := ⟨fun h => by rw [h], fun h => Int.eq_of_mul_eq_mul_right (by omega) h⟩
  simp only [h1, h2]

theorem compare_sV (s t : Bool) (r q : Nat) : compare (sV s r) (sV t q) = compare (if s then -(r : Int) else (r : Int)) (if t then -(q : Int) else q) := by
  simp only [compare, compareOfLessAndEq, sV_lt, sV_eq]

theorem cmp_lt {a b : Int} (h : a < b) : compare a b = .lt := by simp [compare, compareOfLessAndEq, h]
theorem cmp_gt {a b : Int} (h : b < a) : compare a b = .gt := by
  have h1 : ¬ a < b := by omega
  have h2 : ¬ a = b := by omega
  simp [compare, compareOfLessAndEq, h1, h2]
theorem cmp_eq {a b : Int} (h : a = b) : compare a b = .eq := by subst h; simp [compare, compareOfLessAndEq]

theorem order_pl (x y : Nat) (hx : rg x ≤ INF) (hy : rg y ≤ INF) : double.order x y = some (compare (pl x) (pl y)) := by
  unfold Format.order
  by_cases cx : rg x = INF
  · rw [read_inf x cx]
    by_cases cy : rg y = INF
    · rw [read_inf y cy]
      unfold Datum.order pl
      rw [cx, cy]
      cases sg x <;> cases sg y <;> decide
    · rw [read_num y (by omega)]
      unfold Datum.order pl
      rw [cx]
      have hy' : (rg y : Int) < INF := by omega
      have hy0 : (0 : Int) ≤ rg y := by omega
      unfold INF at *
      cases sg x <;> cases sg y <;> first | (rw [cmp_lt (by simp; omega)]; rfl) | (rw [cmp_gt (by simp; omega)]; rfl)
  · rw [read_num x (by omega)]
    by_cases cy : rg y = INF
    · rw [read_inf y cy]
      unfold Datum.order pl
      rw [cy]
      have hy' : (rg x : Int) < INF := by omega
      have hy0 : (0 : Int) ≤ rg x := by omega
      unfold INF at *
      cases sg x <;> cases sg y <;> first | (rw [cmp_lt (by simp; omega)]; rfl) | (rw [cmp_gt (by simp; omega)]; rfl)
    · rw [read_num y (by omega)]
      unfold Datum.order
      dsimp only
      generalize hb : min (-1074 + (E (rg x) : Int)) (-1074 + (E (rg y) : Int)) = base
      rw [compare_scaled _ _ (base + 1074).toNat, signed_shift, signed_shift]
      have e1 : (-1074 + (E (rg x) : Int) - base).toNat + (base + 1074).toNat = E (rg x) := by omega
      have e2 : (-1074 + (E (rg y) : Int) - base).toNat + (base + 1074).toNat = E (rg y) := by omega
      rw [e1, e2, signed_V, signed_V, compare_sV]
      rfl

theorem order_nan (x y : Nat) (h : INF < rg x ∨ INF < rg y) : double.order x y = none := by
  unfold Format.order
  rcases h with h | h
  · obtain ⟨n, f, e⟩ := read_nan x h
    rw [e]; rfl
  · obtain ⟨n, f, e⟩ := read_nan y h
    rw [e]
    cases double.read x <;> rfl

theorem rnan_iff (b : Nat) : rnan b = decide (INF < rg b) := by
  unfold rnan
  by_cases h : INF < rg b
  · rw [order_nan b b (.inl h)]; simp [h]
  · rw [order_pl b b (by omega) (by omega)]; simp [h, compare, compareOfLessAndEq]

theorem log2_eq {n k : Nat} (h1 : 2 ^ k ≤ n) (h2 : n < 2 ^ (k + 1)) : n.log2 = k := by
  have hn : n ≠ 0 := by have := Nat.two_pow_pos k; omega
  have a := (Nat.le_log2 hn).2 h1
  have b := (Nat.log2_lt hn).2 h2
  omega

theorem log2_bounds {n : Nat} (hn : n ≠ 0) : 2 ^ n.log2 ≤ n ∧ n < 2 ^ (n.log2 + 1) :=
  ⟨(Nat.le_log2 hn).1 (Nat.le_refl _), (Nat.log2_lt hn).1 (Nat.lt_succ_self _)⟩

theorem log2_shift {n : Nat} (k : Nat) (hn : n ≠ 0) : (n * 2 ^ k).log2 = n.log2 + k := by
  obtain ⟨a, b⟩ := log2_bounds hn
  refine log2_eq ?_ ?_
  · rw [Nat.pow_add]; exact Nat.mul_le_mul_right _ a
  · rw [show n.log2 + k + 1 = (n.log2 + 1) + k from by omega, Nat.pow_add]
    exact Nat.mul_lt_mul_of_pos_right b (Nat.two_pow_pos _)

theorem cut_exact (way : Toward) (s : Bool) (m k : Nat) (hm : m ≠ 0) : way.cut s (m * 2 ^ k) k = m := by
  unfold Toward.cut
  have h1 : min k ((m * 2 ^ k).log2 + 2) = k := by rw [log2_shift k hm]; omega
  have h2 : m * 2 ^ k / 2 ^ k = m := Nat.mul_div_cancel _ (Nat.two_pow_pos _)
  have h3 : m * 2 ^ k % 2 ^ k = 0 := Nat.mul_mod_left _ _
  have h4 : 0 < 2 ^ k := Nat.two_pow_pos _
  dsimp only
  rw [h1, Nat.shiftLeft_eq, Nat.one_mul, h2, h3]
  cases way <;> simp

theorem word_sr (s : Bool) (r : Nat) : double.word s r = (if s then 9223372036854775808 else 0) + r := by
  unfold Format.word
  have e1 : double.signWeight = 9223372036854775808 := by decide
  rw [e1]
  cases s <;> simp

theorem word_eq (b : Nat) (h : b < 18446744073709551616) : double.word (sg b) (rg b) = b := by
  rw [word_sr]
  unfold sg rg
  by_cases c : b / 9223372036854775808 % 2 = 1 <;> simp [c] <;> omega

theorem sg_word (s : Bool) (r : Nat) (h : r < 9223372036854775808) : sg (double.word s r) = s := by
  rw [word_sr]
  unfold sg
  cases s <;> simp <;> omega

theorem rg_word (s : Bool) (r : Nat) (h : r < 9223372036854775808) : rg (double.word s r) = r := by
  rw [word_sr]
  unfold rg
  cases s <;> simp <;> omega

theorem M_zero {r : Nat} : M r = 0 ↔ r = 0 := by
  unfold M
  split <;> omega

theorem log2_M_sub {r : Nat} (h : r < 4503599627370496) (h0 : r ≠ 0) : (M r).log2 < 52 := by
  unfold M
  rw [if_pos h]
  exact (Nat.log2_lt h0).2 (by omega)

theorem log2_M_norm {r : Nat} (h : ¬ r < 4503599627370496) : (M r).log2 = 52 := by
  unfold M
  rw [if_neg h]
  exact log2_eq (by omega) (by omega)

theorem rung_split {r : Nat} (h : 4503599627370496 ≤ r) : E r * 4503599627370496 + M r = r := by
  unfold E M
  rw [if_neg (by omega)]
  have h1 := Nat.div_add_mod r 4503599627370496
  have h2 : 1 ≤ r / 4503599627370496 := by omega
  generalize r / 4503599627370496 = q at *
  generalize r % 4503599627370496 = m at *
  omega

theorem nearest_exact (s : Bool) (r k : Nat) (h : r < INF) : double.nearest s (M r * 2 ^ k) (-1074 + (E r : Nat) - k) = double.word s r := by
  unfold Format.nearest
  have e1 : double.fractionBits = 52 := rfl
  have e2 : double.binade = 4503599627370496 := by decide
  have e3 : double.infRung = 9218868437227405312 := by decide
  have e4 : double.leastPlace = -1074 := by decide
  by_cases c : r = 0
  · subst c; rw [if_pos (by rw [M_zero.2 rfl, Nat.zero_mul])]
  · have hM : M r ≠ 0 := fun e => c (M_zero.1 e)
    have hk : M r * 2 ^ k ≠ 0 := Nat.mul_ne_zero hM (by have := Nat.two_pow_pos k; omega)
    rw [if_neg hk]
    dsimp only
    rw [e1, e2, e3, e4, log2_shift k hM]
    unfold INF at h
    by_cases d : r < 4503599627370496
    · have hl := log2_M_sub d c
      have hE : E r = 0 := by unfold E; omega
      have h1 : max (-1074 + (E r : Int) - k + ((M r).log2 + k : Nat) - (52 : Nat)) (-1074) = -1074 := by omega
      rw [h1]
      have h2 : (-1074 + (E r : Int) - k - -1074).toNat = 0 := by omega
      have h3 : (-1074 - (-1074 + (E r : Int) - k)).toNat = k := by omega
      have h4 : (-1074 - -1074 : Int).toNat = 0 := by omega
      rw [h2, h3, h4, Nat.shiftLeft_zero, cut_exact _ _ _ _ hM]
      rw [Nat.zero_mul, Nat.zero_add, show M r = r from by unfold M; exact if_pos d, Nat.min_eq_left (by omega)]
    · have hl := log2_M_norm d
      have hE : (E r : Int) = r / 4503599627370496 - 1 := by unfold E; omega
      have h1 : max (-1074 + (E r : Int) - k + ((M r).log2 + k : Nat) - (52 : Nat)) (-1074) = -1074 + E r := by omega
      rw [h1]
      have h2 : (-1074 + (E r : Int) - k - (-1074 + (E r : Int))).toNat = 0 := by omega
      have h3 : (-1074 + (E r : Int) - (-1074 + (E r : Int) - k)).toNat = k := by omega
      have h4 : (-1074 + (E r : Int) - -1074).toNat = E r := by omega
      rw [h2, h3, h4, Nat.shiftLeft_zero, cut_exact _ _ _ _ hM]
      rw [rung_split (by omega), Nat.min_eq_left (by omega)]

theorem sum_comm (x y : Datum) : x.sum y = y.sum x := by
  cases x <;> cases y <;> simp only [Datum.sum]
  · rename_i s m i t n j
    rw [Int.min_comm i j, Int.add_comm (signed s _ _), Bool.and_comm s t]
  · rename_i s t
    by_cases h : s = t
    · subst h; rfl
    · rw [if_neg h, if_neg (fun e => h e.symm)]

theorem product_comm (x y : Datum) : x.product y = y.product x := by
  cases x <;> cases y <;> simp only [Datum.product]
  · rename_i s m i t n j
    rw [Bool.xor_comm, Nat.mul_comm, Int.add_comm]
  · rename_i s t
    rw [Bool.xor_comm]

theorem add_comm' (x y : Nat) : double.add x y = double.add y x := by
  unfold Format.add; rw [sum_comm]

theorem mul_comm' (x y : Nat) : double.mul x y = double.mul y x := by
  unfold Format.mul; rw [product_comm]

/-- the word with the other sign -/
def ng (b : Nat) : Nat := b ^^^ 2 ^ 63

theorem ng_eq (b : Nat) (h : b < 18446744073709551616) : ng b = if b < 9223372036854775808 then b + 9223372036854775808 else b - 9223372036854775808 := by
  unfold ng
  have e : b = (b / 2 ^ 63) * 2 ^ 63 + b % 2 ^ 63 := by omega
  have hlt : b % 2 ^ 63 < 2 ^ 63 := Nat.mod_lt _ (by decide)
  have hx : b ^^^ 2 ^ 63 = ((b / 2 ^ 63) ^^^ 1) * 2 ^ 63 + b % 2 ^ 63 := by
    apply Nat.eq_of_testBit_eq
    intro i
    rw [Nat.testBit_xor, Nat.testBit_two_pow, Nat.mul_comm, Nat.testBit_two_pow_mul_add _ hlt, Nat.testBit_xor, Nat.testBit_div_two_pow, Nat.testBit_mod_two_pow]
    by_cases c : i < 63
    · have : ¬ 63 = i := by omega
      simp [c, this]
    · rw [if_neg c, show i - 63 + 63 = i from by omega, show (1 : Nat) = 2 ^ 0 from rfl, Nat.testBit_two_pow]
      have : (0 = i - 63) = (63 = i) := propext ⟨fun _ => by omega, fun _ => by omega⟩
      simp only [this]
  rw [hx]
  by_cases c : b < 9223372036854775808
  · rw [if_pos c, show b / 2 ^ 63 = 0 from by omega, show (0 ^^^ 1 : Nat) = 1 from rfl]; omega
  · rw [if_neg c, show b / 2 ^ 63 = 1 from by omega, show (1 ^^^ 1 : Nat) = 0 from rfl]; omega

theorem sg_ng (b : Nat) (h : b < 18446744073709551616) : sg (ng b) = !sg b := by
  rw [ng_eq b h]
  unfold sg
  by_cases c : b < 9223372036854775808
  · rw [if_pos c, show b / 9223372036854775808 = 0 from by omega, show (b + 9223372036854775808) / 9223372036854775808 = 1 from by omega]; rfl
  · rw [if_neg c, show b / 9223372036854775808 = 1 from by omega, show (b - 9223372036854775808) / 9223372036854775808 = 0 from by omega]; rfl

theorem rg_ng (b : Nat) (h : b < 18446744073709551616) : rg (ng b) = rg b := by
  rw [ng_eq b h]
  unfold rg
  by_cases c : b < 9223372036854775808
  · rw [if_pos c]; omega
  · rw [if_neg c]; omega

theorem ng_lt (b : Nat) (h : b < 18446744073709551616) : ng b < 18446744073709551616 := by
  rw [ng_eq b h]; split <;> omega

theorem ng_ng (b : Nat) : ng (ng b) = b := by unfold ng; rw [Nat.xor_assoc, Nat.xor_self, Nat.xor_zero]

theorem rg_trichotomy (b : Nat) : rg b < INF ∨ rg b = INF ∨ INF < rg b := Nat.lt_trichotomy _ _

theorem sub_add (x y : Nat) (hy : y < 18446744073709551616) : double.sub x y = double.add x (ng y) := by
  unfold Format.sub Format.add
  rcases rg_trichotomy y with h | h | h
  · rw [read_num y h, read_num (ng y) (by rw [rg_ng y hy]; exact h), rg_ng y hy, sg_ng y hy]; rfl
  · rw [read_inf y h, read_inf (ng y) (by rw [rg_ng y hy]; exact h), sg_ng y hy]; rfl
  · obtain ⟨n, f, e⟩ := read_nan y h
    obtain ⟨n', f', e'⟩ := read_nan (ng y) (by rw [rg_ng y hy]; exact h)
    rw [e, e']
    cases double.read x <;> rfl

/-! what a product and a quotient with 1 are -/

theorem rnan_false {b : Nat} (h : rnan b = false) : rg b ≤ INF := by
  rw [rnan_iff] at h; simp at h; exact h

def one : Nat := 4607182418800017408

theorem read_one : double.read one = .number false 4503599627370496 (-52) := by decide

theorem write_read (b : Nat) (hb : b < 18446744073709551616) (h : rg b ≤ INF) : double.write (double.read b) = b := by
  by_cases c : rg b = INF
  · rw [read_inf b c]
    unfold Format.write
    have e3 : double.infRung = INF := by decide
    dsimp only
    rw [e3, ← c, word_eq b hb]
  · rw [read_num b (by omega)]
    unfold Format.write
    have := nearest_exact (sg b) (rg b) 0 (by omega)
    rw [Nat.pow_zero, Nat.mul_one, show -1074 + (E (rg b) : Int) - ((0 : Nat) : Int) = -1074 + (E (rg b) : Int) from by omega] at this
    dsimp only
    rw [this, word_eq b hb]

theorem mul_one' (b : Nat) (hb : b < 18446744073709551616) (h : rg b ≤ INF) : double.mul b one = some b := by
  unfold Format.mul
  rw [read_one]
  by_cases c : rg b = INF
  · rw [read_inf b c]
    unfold Datum.product
    have := write_read b hb h
    rw [read_inf b c] at this
    simp only [Bool.xor_false]
    rw [if_neg (by decide), Option.map_some, this]
  · rw [read_num b (by omega)]
    unfold Datum.product
    have := nearest_exact (sg b) (rg b) 52 (by omega)
    rw [word_eq b hb] at this
    simp only [Bool.xor_false, Option.map_some, Format.write]
    rw [show (4503599627370496 : Nat) = 2 ^ 52 from by decide, show -1074 + (E (rg b) : Int) + -52 = -1074 + (E (rg b) : Int) - (52 : Nat) from by omega, this]

theorem div_one' (b : Nat) (hb : b < 18446744073709551616) (h : rg b ≤ INF) : double.div b one = some b := by
  unfold Format.div
  rw [read_one]
  by_cases c : rg b = INF
  · rw [read_inf b c]
    unfold Datum.quotient
    have := write_read b hb h
    rw [read_inf b c] at this
    simp only [Bool.xor_false]
    rw [Option.map_some, this]
  · rw [read_num b (by omega)]
    unfold Datum.quotient
    have hl : (4503599627370496 : Nat).log2 = 52 := log2_eq (by decide) (by decide)
    have hf : double.fractionBits = 52 := rfl
    have hM : (M (rg b)).log2 ≤ 52 := by
      by_cases z : M (rg b) = 0
      · rw [z]; decide
      · have := (Nat.log2_lt z).2 (show M (rg b) < 2 ^ 53 from M_lt _); omega
    dsimp only
    rw [if_neg (by decide), hl, hf]
    obtain ⟨j, hj⟩ : ∃ j, 52 + 2 + 52 - (M (rg b)).log2 = 52 + j := ⟨54 - (M (rg b)).log2, by omega⟩
    rw [hj]
    have h1 : M (rg b) <<< (52 + j) = M (rg b) * 2 ^ j * 4503599627370496 := by
      rw [Nat.shiftLeft_eq, Nat.pow_add, Nat.mul_assoc, Nat.mul_comm (2 ^ 52)]
    rw [h1, Nat.mul_div_cancel _ (by decide), Nat.mul_mod_left]
    have := nearest_exact (sg b) (rg b) (j + 1) (by omega)
    rw [word_eq b hb] at this
    simp only [Bool.xor_false, Option.map_some, Format.write]
    have h2 : 2 * (M (rg b) * 2 ^ j) + (0 != 0 : Bool).toNat = M (rg b) * 2 ^ (j + 1) := by
      rw [Nat.pow_succ]
      simp
      rw [Nat.mul_left_comm, Nat.mul_comm 2 (2 ^ j)]
    rw [h2, show -1074 + (E (rg b) : Int) - -52 - ((52 + j : Nat) : Int) - 1 = -1074 + (E (rg b) : Int) - ((j + 1 : Nat) : Int) from by omega, this]

/-! whole numbers -/

theorem cut_even (s : Bool) (n c : Nat) (hc : c ≤ n.log2 + 2) :
    Toward.even.cut s n c = n / 2 ^ c + (if 2 ^ c < 2 * (n % 2 ^ c) ∨ (2 ^ c = 2 * (n % 2 ^ c) ∧ n / 2 ^ c % 2 = 1) then 1 else 0) := by
  unfold Toward.cut
  dsimp only
  rw [Nat.min_eq_left hc, Nat.shiftLeft_eq, Nat.one_mul]
  congr 1
  generalize 2 ^ c = g
  generalize n % g = r
  generalize n / g % 2 = b
  by_cases h1 : g < 2 * r
  · rw [if_pos (.inl h1), decide_eq_true h1]; rfl
  · by_cases h2 : g = 2 * r
    · by_cases h3 : b = 1
      · rw [if_pos (.inr ⟨h2, h3⟩)]
        simp [h2, h3]
      · rw [if_neg (by omega)]
        simp [h2, h3]
    · rw [if_neg (by omega)]
      simp [h1, h2]

theorem nearest_num (s : Bool) (m : Nat) (p : Int) : rnan (double.nearest s m p) = false := by
  have e3 : double.infRung = INF := by decide
  rw [rnan_iff]
  unfold Format.nearest
  split
  · rw [rg_word _ _ (by decide)]; decide
  · dsimp only
    rw [e3, rg_word _ _ (Nat.lt_of_le_of_lt (Nat.min_le_right _ _) (by decide))]
    exact decide_eq_false (Nat.not_lt.2 (Nat.min_le_right _ _))

/-- the rung of the number nearest to a whole one, whose highest bit is k -/
def wholeRung (n k : Nat) : Nat :=
  if k ≤ 52 then (k + 1022) * 4503599627370496 + n * 2 ^ (52 - k)
  else (k + 1022) * 4503599627370496 + (n / 2 ^ (k - 52) + (if 2 ^ (k - 52) < 2 * (n % 2 ^ (k - 52)) ∨ (2 ^ (k - 52) = 2 * (n % 2 ^ (k - 52)) ∧ n / 2 ^ (k - 52) % 2 = 1) then 1 else 0))

theorem whole_small {n k : Nat} (h2 : n < 2 ^ (k + 1)) (c : k ≤ 52) : n * 2 ^ (52 - k) < 9007199254740992 := by
  have : n * 2 ^ (52 - k) < 2 ^ (k + 1) * 2 ^ (52 - k) := Nat.mul_lt_mul_of_pos_right h2 (Nat.two_pow_pos _)
  rw [← Nat.pow_add, show k + 1 + (52 - k) = 53 from by omega] at this
  exact this

theorem whole_quot {n k : Nat} (h2 : n < 2 ^ (k + 1)) (c : 52 < k) : n / 2 ^ (k - 52) < 9007199254740992 := by
  apply Nat.div_lt_of_lt_mul
  rw [show (9007199254740992 : Nat) = 2 ^ 53 from rfl, ← Nat.pow_add, show k - 52 + 53 = k + 1 from by omega]
  exact h2

theorem nearest_whole (s : Bool) (n k : Nat) (h1 : 2 ^ k ≤ n) (h2 : n < 2 ^ (k + 1)) (hk : k ≤ 63) : double.nearest s n 0 = double.word s (wholeRung n k) := by
  have hl : n.log2 = k := log2_eq h1 h2
  have hn : n ≠ 0 := by have := Nat.two_pow_pos k; omega
  have e1 : double.fractionBits = 52 := rfl
  have e2 : double.binade = 4503599627370496 := by decide
  have e3 : double.infRung = 9218868437227405312 := by decide
  have e4 : double.leastPlace = -1074 := by decide
  unfold Format.nearest wholeRung
  rw [if_neg hn]
  dsimp only
  rw [e1, e2, e3, e4, hl]
  have m1 : max ((0 : Int) + (k : Nat) - (52 : Nat)) (-1074) = (k : Int) - 52 := by omega
  rw [m1]
  have m4 : ((k : Int) - 52 - -1074).toNat = k + 1022 := by omega
  rw [m4]
  by_cases c : k ≤ 52
  · have m2 : ((0 : Int) - ((k : Int) - 52)).toNat = 52 - k := by omega
    have m3 : ((k : Int) - 52 - 0).toNat = 0 := by omega
    rw [m2, m3, if_pos c, Nat.shiftLeft_eq]
    have hne : n * 2 ^ (52 - k) ≠ 0 := Nat.mul_ne_zero hn (by have := Nat.two_pow_pos (52 - k); omega)
    have := cut_exact .even s (n * 2 ^ (52 - k)) 0 hne
    rw [Nat.pow_zero, Nat.mul_one] at this
    rw [this, Nat.min_eq_left]
    have := whole_small h2 c
    omega
  · have m2 : ((0 : Int) - ((k : Int) - 52)).toNat = 0 := by omega
    have m3 : ((k : Int) - 52 - 0).toNat = k - 52 := by omega
    rw [m2, m3, if_neg c, Nat.shiftLeft_zero, cut_even _ _ _ (by omega), Nat.min_eq_left]
    have := whole_quot h2 (Nat.lt_of_not_le c)
    split <;> omega

theorem wholeRung_lt {n k : Nat} (h2 : n < 2 ^ (k + 1)) (hk : k ≤ 63) : wholeRung n k < 9218868437227405312 := by
  unfold wholeRung
  split
  · rename_i c; have := whole_small h2 c; omega
  · rename_i c; have := whole_quot h2 (Nat.lt_of_not_le c); split <;> omega

theorem cut_zero (s : Bool) (n d : Nat) : Toward.zero.cut s n d = n / 2 ^ d := by
  unfold Toward.cut
  dsimp only
  rw [Nat.shiftLeft_eq, Nat.one_mul]
  show n / 2 ^ min d (n.log2 + 2) + 0 = _
  rw [Nat.add_zero]
  by_cases h : d ≤ n.log2 + 2
  · rw [Nat.min_eq_left h]
  · rw [Nat.min_eq_right (by omega)]
    by_cases z : n = 0
    · subst z; simp
    · have hb := (log2_bounds z).2
      have h1 : 2 ^ (n.log2 + 1) ≤ 2 ^ (n.log2 + 2) := Nat.pow_le_pow_right (by decide) (by omega)
      have h2 : 2 ^ (n.log2 + 1) ≤ 2 ^ d := Nat.pow_le_pow_right (by decide) (by omega)
      rw [Nat.div_eq_of_lt (by omega), Nat.div_eq_of_lt (by omega)]

/-- the whole part of the number on a rung -/
def TI (r : Nat) : Nat := if 1074 ≤ E r then M r * 2 ^ (E r - 1074) else M r / 2 ^ (1074 - E r)

theorem toInt_num (b : Nat) (h : rg b < INF) : (double.read b).toInt .zero = some (if sg b then -(TI (rg b) : Int) else (TI (rg b) : Int)) := by
  rw [read_num b h]
  unfold Datum.toInt Datum.integral
  dsimp only
  rw [cut_zero, Nat.shiftLeft_eq]
  unfold signed TI
  by_cases c : 1074 ≤ E (rg b)
  · have e1 : (-1074 + (E (rg b) : Int)).toNat = E (rg b) - 1074 := by omega
    have e2 : (-(-1074 + (E (rg b) : Int))).toNat = 0 := by omega
    rw [e1, e2, if_pos c, Nat.pow_zero, Nat.div_one, Nat.shiftLeft_zero]
  · have e1 : (-1074 + (E (rg b) : Int)).toNat = 0 := by omega
    have e2 : (-(-1074 + (E (rg b) : Int))).toNat = 1074 - E (rg b) := by omega
    rw [e1, e2, if_neg c, Nat.pow_zero, Nat.mul_one, Nat.shiftLeft_zero]

theorem TI_lt {r : Nat} (h : r < 4890909195324358656) : TI r < 9223372036854775808 := by
  have hM := M_lt r
  have hE : E r ≤ 1084 := by unfold E; omega
  unfold TI
  split
  · rename_i c
    have h2 : 2 ^ (E r - 1074) ≤ 2 ^ 10 := Nat.pow_le_pow_right (by decide) (by omega)
    have h3 : M r * 2 ^ (E r - 1074) ≤ M r * 2 ^ 10 := Nat.mul_le_mul_left _ h2
    omega
  · have := Nat.div_le_self (M r) (2 ^ (1074 - E r))
    omega

theorem TI_edge : TI 4890909195324358656 = 9223372036854775808 := by decide +kernel

theorem whole_big {n k : Nat} (h1 : 2 ^ k ≤ n) (c : k ≤ 52) : 4503599627370496 ≤ n * 2 ^ (52 - k) := by
  have : 2 ^ k * 2 ^ (52 - k) ≤ n * 2 ^ (52 - k) := Nat.mul_le_mul_right _ h1
  rw [← Nat.pow_add, show k + (52 - k) = 52 from by omega] at this
  exact this

theorem TI_whole {n k : Nat} (h1 : 2 ^ k ≤ n) (h2 : n < 2 ^ (k + 1)) (c : k ≤ 52) : TI (wholeRung n k) = n := by
  have hs := whole_small h2 c
  have hb := whole_big h1 c
  have hr : wholeRung n k = (k + 1022) * 4503599627370496 + n * 2 ^ (52 - k) := by unfold wholeRung; rw [if_pos c]
  have hE : E (wholeRung n k) = k + 1022 := by rw [hr]; unfold E; omega
  have hM : M (wholeRung n k) = n * 2 ^ (52 - k) := by rw [hr]; unfold M; rw [if_neg (by omega)]; omega
  unfold TI
  rw [hE, hM]
  by_cases d : k = 52
  · subst d
    rw [if_pos (by omega)]
    simp
  · rw [if_neg (by omega), show 1074 - (k + 1022) = 52 - k from by omega]
    exact Nat.mul_div_cancel _ (Nat.two_pow_pos _)

end Go.Proofs.YtelfinhpjokmdaaGreatDoor

namespace Go.Proofs.YtelfinhpjokmdaaGreatDoor
set_option maxRecDepth 100000
open Go.RowKit

def ub (a : Int) : Nat := (IntKind.u64.wrap a).toNat

theorem wrap_u64_ub (a : Int) : IntKind.u64.wrap a = (ub a : Int) := by
  unfold ub; rw [IntKind.wrap_u64]; omega

def RBits (b : Nat) : Int := if rnan b then 9221120237041090560 else wrap64 (b : Int)

def RCanon (a : Int) : Int := RBits (ub a)

theorem nan_word (t : Nat) : rnan ((t % 2) * 2 ^ 63 + 0x7ff0000000000000 + 1 + (t / 2) % (2 ^ 52 - 1)) = true := by
  have h1 : (t / 2) % (2 ^ 52 - 1) < 2 ^ 52 - 1 := Nat.mod_lt _ (by decide)
  generalize (t / 2) % (2 ^ 52 - 1) = k at *
  have h2 : t % 2 < 2 := Nat.mod_lt _ (by decide)
  generalize t % 2 = s at *
  have hr : ∃ n f, Ieee.double.read (s * 2 ^ 63 + 0x7ff0000000000000 + 1 + k) = .nan n f := by
    unfold Ieee.Format.read
    have e1 : Ieee.double.signWeight = 2 ^ 63 := by decide
    have e2 : Ieee.double.binade = 2 ^ 52 := by decide
    have e3 : Ieee.double.infRung = 0x7ff0000000000000 := by decide
    rw [e1, e2, e3]
    dsimp only
    have e4 : (s * 2 ^ 63 + 0x7ff0000000000000 + 1 + k) % 2 ^ 63 = 0x7ff0000000000000 + 1 + k := by omega
    rw [e4, if_neg (by omega), if_neg (by omega), if_neg (by omega)]
    exact ⟨_, _, rfl⟩
  obtain ⟨n, f, h⟩ := hr
  unfold rnan Ieee.Format.order
  rw [h]
  rfl

theorem RBits_nan {nb : Nat} (h : rnan nb = true) : RBits nb = 9221120237041090560 := by unfold RBits; rw [if_pos h]

/-- a sum, difference, product, quotient: the operation's word in its one form; NaN where there is none -/
def ROf (o : Option Nat) : Int := match o with | some r => RBits r | none => 9221120237041090560

def RNeg (a : Int) : Int := RBits (Op.negFloat .f64 (ub a))

def ROfInt (n : Int) : Int := RBits (floatOfInt .f64 n)

def fcmp (x y : Nat) : Int := match Ieee.double.order x y with | some .lt => -1 | some .gt => 1 | _ => 0

def forder (x y : Nat) : Int := if rnan x then (if rnan y then 0 else 1) else if rnan y then -1 else fcmp x y

def ROrder (a b : Int) : Int := forder (ub a) (ub b)

def RToInt (a : Int) : Int × Int := match floatToIntVal .f64 (ub a) .i64 with | some n => (n, 0) | none => (0, 10)

def tbad (b : Nat) : Bool := rnan b || Ieee.double.order b 14114281232179134464 == some .lt || (Ieee.double.order b 4890909195324358656 == some .gt || Ieee.double.order b 4890909195324358656 == some .eq)

/-- the power of ten, as a word -/
def P10 (k : Nat) : Nat := floatOfInt .f64 (10 ^ k : Nat)

theorem p10_step : ∀ k, k < 15 → Ieee.double.mul (P10 k) 4621819117588971520 = some (P10 (k + 1)) := by decide +kernel

def dbad (m s : Int) : Bool := decide (m < 0) || decide (999999999999999 < m) || decide (s < 0) || decide (15 < s)

def ROfDecimal (m s : Int) : Int × Int := if dbad m s then (0, 11) else (ROf (Ieee.double.div (floatOfInt .f64 m) (P10 s.toNat)), 0)

theorem ub_lt (a : Int) : ub a < 18446744073709551616 := by unfold ub; rw [IntKind.wrap_u64]; omega

theorem ret_i {k : IntKind} {a b : Int} (h : a = b) : Ending.returned (.int k a) = .returned (.int k b) := by rw [h]

theorem ret_i2 {k l : IntKind} {a b c d : Int} (h : a = b) (g : c = d) : Ending.returned (.tuple #[.int k a, .int l c]) = .returned (.tuple #[.int k b, .int l d]) := by rw [h, g]

theorem ret_i3 {k l m : IntKind} {a b c d e f : Int} (h : a = b) (g : c = d) (i : e = f) : Ending.returned (.tuple #[.int k a, .int l c, .int m e]) = .returned (.tuple #[.int k b, .int l d, .int m f]) := by rw [h, g, i]

theorem and2047 (n : Nat) (h : n < 18446744073709551616) : bits .and .u64 (n : Int) 2047 = ((n % 2048 : Nat) : Int) := by
  have := bits_and_u64_nat n 2047 h (by decide)
  rw [show ((2047 : Nat) : Int) = 2047 from rfl] at this
  rw [this, show (2047 : Nat) = 2 ^ 11 - 1 from rfl, Nat.and_two_pow_sub_one_eq_mod]

theorem and52 (n : Nat) (h : n < 18446744073709551616) : bits .and .u64 (n : Int) 4503599627370495 = ((n % 4503599627370496 : Nat) : Int) := by
  have := bits_and_u64_nat n 4503599627370495 h (by decide)
  rw [show ((4503599627370495 : Nat) : Int) = 4503599627370495 from rfl] at this
  rw [this, show (4503599627370495 : Nat) = 2 ^ 52 - 1 from rfl, Nat.and_two_pow_sub_one_eq_mod]

theorem ub_parts (a : Int) : rg (ub a) = ub a / 4503599627370496 % 2048 * 4503599627370496 + ub a % 4503599627370496 := by
  unfold rg; have := ub_lt a; omega

theorem ub_sign (a : Int) : sg (ub a) = decide (ub a / 9223372036854775808 = 1) := by
  unfold sg; have := ub_lt a
  rw [Nat.mod_eq_of_lt (by omega)]; rfl

def PCanon (a : Int) : Int := if rnan (ub a) then 9221120237041090560 else a

/-- a number's place in the document's order -/
def PPlace (a : Int) : Int := if rnan (ub a) then 9223372036854775807 else pl (ub a)

def POrder (a b : Int) : Int := if PPlace a < PPlace b then -1 else if PPlace b < PPlace a then 1 else 0

theorem ub_wrap (b : Nat) (h : b < 18446744073709551616) : ub (wrap64 (b : Int)) = b := by
  unfold ub wrap64; rw [IntKind.wrap_u64]; omega

theorem nan_word_lt (t : Nat) : ((t % 2) * 2 ^ 63 + 0x7ff0000000000000 + 1 + (t / 2) % (2 ^ 52 - 1)) < 18446744073709551616 := by
  have h1 : (t / 2) % (2 ^ 52 - 1) < 2 ^ 52 - 1 := Nat.mod_lt _ (by decide)
  generalize (t / 2) % (2 ^ 52 - 1) = k at *
  have h2 : t % 2 < 2 := Nat.mod_lt _ (by decide)
  omega

def PNeg (a : Int) : Int := if rnan (ub a) then 9221120237041090560 else bits .xor .i64 a (-9223372036854775808)

def InI (a : Int) : Prop := -9223372036854775808 ≤ a ∧ a ≤ 9223372036854775807

theorem wrap_ub {a : Int} (h : InI a) : wrap64 (ub a : Int) = a := by
  obtain ⟨h1, h2⟩ := h
  unfold ub wrap64; rw [IntKind.wrap_u64]; omega

theorem wrap_in (n : Int) : InI (wrap64 n) := by unfold InI wrap64; omega

theorem canon_eq {a : Int} (h : InI a) : RCanon a = PCanon a := by
  unfold RCanon PCanon RBits; rw [wrap_ub h]

theorem xor_min (a : Int) : bits .xor .i64 a (-9223372036854775808) = wrap64 (ng (ub a) : Int) := by
  unfold bits
  dsimp only
  rw [IntKind.wrap_i64, BitVec.toNat_xor]
  have h1 : (BitVec.ofInt IntKind.i64.bits a).toNat = ub a := by
    rw [BitVec.toNat_ofInt]; unfold ub; rw [IntKind.wrap_u64]; rfl
  have h2 : (BitVec.ofInt IntKind.i64.bits (-9223372036854775808)).toNat = 2 ^ 63 := by decide
  rw [h1, h2]
  unfold wrap64 ng
  rfl

theorem nan_ub : ub 9221120237041090560 = 9221120237041090560 := by decide

theorem nan_rnan : rnan 9221120237041090560 = true := by decide +kernel

theorem rnan_ng (b : Nat) (h : b < 18446744073709551616) : rnan (ng b) = rnan b := by
  rw [rnan_iff, rnan_iff, rg_ng b h]

theorem neg_eq (a : Int) : RNeg a = PNeg a := by
  unfold RNeg PNeg RBits
  rw [xor_min]
  have : Op.negFloat .f64 (ub a) = ng (ub a) := rfl
  rw [this, rnan_ng _ (ub_lt a)]

theorem pl_bound (b : Nat) (h : rnan b = false) : -9218868437227405312 ≤ pl b ∧ pl b ≤ 9218868437227405312 := by
  have := rnan_false h
  unfold pl
  unfold INF at this
  split <;> omega

theorem order_eq (a b : Int) : ROrder a b = POrder a b := by
  unfold ROrder POrder forder PPlace
  rcases ha : rnan (ub a) with _ | _ <;> rcases hb : rnan (ub b) with _ | _
  · have h1 := order_pl (ub a) (ub b) (rnan_false ha) (rnan_false hb)
    simp only [Bool.false_eq_true, if_false]
    unfold fcmp
    rw [h1]
    by_cases c : pl (ub a) < pl (ub b)
    · rw [cmp_lt c, if_pos c]
    · by_cases d : pl (ub b) < pl (ub a)
      · rw [cmp_gt d, if_neg c, if_pos d]
      · rw [cmp_eq (by omega), if_neg c, if_neg d]
  · have := pl_bound _ ha
    simp
    omega
  · have := pl_bound _ hb
    simp
    omega
  · simp

theorem porder_neg (a b : Int) : POrder a b = -POrder b a := by
  unfold POrder; repeat' split
  all_goals omega

theorem porder_canon (a : Int) : POrder a (PCanon a) = 0 := by
  have : PPlace (PCanon a) = PPlace a := by
    unfold PPlace PCanon
    rcases h : rnan (ub a) with _ | _
    · simp only [Bool.false_eq_true, if_false, h]
    · rw [if_pos rfl, nan_ub, nan_rnan, if_pos rfl, if_pos rfl]
  unfold POrder
  rw [this, if_neg (by omega), if_neg (by omega)]

theorem porder_vals (a b : Int) : POrder a b = -1 ∨ POrder a b = 0 ∨ POrder a b = 1 := by
  unfold POrder; repeat' split
  all_goals simp

theorem pcanon_in {a : Int} (h : InI a) : InI (PCanon a) := by
  unfold PCanon; split
  · unfold InI; omega
  · exact h

/-- a number in its one form -/
def Cn (a : Int) : Prop := InI a ∧ (rnan (ub a) = true → a = 9221120237041090560)

theorem cn_canon {a : Int} (h : InI a) : Cn (RCanon a) := by
  rw [canon_eq h]
  refine ⟨pcanon_in h, ?_⟩
  unfold PCanon
  rcases hn : rnan (ub a) with _ | _
  · simp [hn]
  · simp

theorem rbits_ub {a : Int} (h : InI a) (hn : rnan (ub a) = false) : RBits (ub a) = a := by
  unfold RBits; rw [hn, wrap_ub h]; rfl

theorem sum_nan_l (n : Bool) (f : Nat) (d : Ieee.Datum) : (Ieee.Datum.nan n f).sum d = none := by cases d <;> rfl

theorem sum_nan_r (n : Bool) (f : Nat) (d : Ieee.Datum) : d.sum (Ieee.Datum.nan n f) = none := by cases d <;> rfl

theorem prod_nan_l (n : Bool) (f : Nat) (d : Ieee.Datum) : (Ieee.Datum.nan n f).product d = none := by cases d <;> rfl

theorem prod_nan_r (n : Bool) (f : Nat) (d : Ieee.Datum) : d.product (Ieee.Datum.nan n f) = none := by cases d <;> rfl

theorem quot_nan_l (n : Bool) (f k : Nat) (d : Ieee.Datum) : Ieee.Datum.quotient k (Ieee.Datum.nan n f) d = none := by cases d <;> rfl

theorem quot_nan_r (n : Bool) (f k : Nat) (d : Ieee.Datum) : Ieee.Datum.quotient k d (Ieee.Datum.nan n f) = none := by cases d <;> rfl

theorem opp_nan (n : Bool) (f : Nat) : (Ieee.Datum.nan n f).opposite = .nan (!n) f := rfl

theorem op_nan (x y : Nat) (h : rnan x = true ∨ rnan y = true) : Ieee.double.add x y = none ∧ Ieee.double.sub x y = none ∧ Ieee.double.mul x y = none ∧ Ieee.double.div x y = none := by
  unfold Ieee.Format.add Ieee.Format.sub Ieee.Format.mul Ieee.Format.div
  rcases h with h | h
  · have h' : INF < rg x := by rw [rnan_iff] at h; exact of_decide_eq_true h
    obtain ⟨n, f, e⟩ := read_nan x h'
    rw [e, sum_nan_l, sum_nan_l, prod_nan_l, quot_nan_l]
    exact ⟨Option.map_none _, Option.map_none _, Option.map_none _, Option.map_none _⟩
  · have h' : INF < rg y := by rw [rnan_iff] at h; exact of_decide_eq_true h
    obtain ⟨n, f, e⟩ := read_nan y h'
    rw [e, opp_nan, sum_nan_r, sum_nan_r, prod_nan_r, quot_nan_r]
    exact ⟨Option.map_none _, Option.map_none _, Option.map_none _, Option.map_none _⟩

theorem pneg_num {a : Int} (hn : rnan (ub a) = false) : PNeg a = wrap64 (ng (ub a) : Int) := by
  unfold PNeg; rw [hn, xor_min, if_neg (by decide)]

theorem pneg_nan {a : Int} (ha : Cn a) (hn : rnan (ub a) = true) : PNeg a = a := by
  unfold PNeg; rw [hn, if_pos rfl]; exact (ha.2 hn).symm

theorem ub_neg {a : Int} (hn : rnan (ub a) = false) : ub (RNeg a) = ng (ub a) := by
  rw [neg_eq, pneg_num hn]
  exact ub_wrap _ (ng_lt _ (ub_lt a))

theorem law_sub {b : Int} (a : Int) (hb : Cn b) : ROf (Ieee.double.sub (ub a) (ub b)) = ROf (Ieee.double.add (ub a) (ub (RNeg b))) := by
  rcases hn : rnan (ub b) with _ | _
  · rw [ub_neg hn, sub_add _ _ (ub_lt b)]
  · have h2 : RNeg b = b := by rw [neg_eq, pneg_nan hb hn]
    rw [h2, (op_nan _ _ (.inr hn)).1, (op_nan _ _ (.inr hn)).2.1]

theorem law_neg {a : Int} (ha : Cn a) : RNeg (RNeg a) = a := by
  rcases hn : rnan (ub a) with _ | _
  · have h1 := ub_neg hn
    have h2 : rnan (ub (RNeg a)) = false := by rw [h1, rnan_ng _ (ub_lt a), hn]
    rw [neg_eq (RNeg a), pneg_num h2, h1, ng_ng]
    exact wrap_ub ha.1
  · have h2 : RNeg a = a := by rw [neg_eq, pneg_nan ha hn]
    rw [h2, h2]

theorem law_mul {a : Int} (ha : Cn a) : ROf (Ieee.double.mul (ub a) (ub 4607182418800017408)) = a := by
  have ho : ub 4607182418800017408 = one := by decide
  rw [ho]
  rcases hn : rnan (ub a) with _ | _
  · rw [mul_one' _ (ub_lt a) (rnan_false hn)]
    exact rbits_ub ha.1 hn
  · rw [(op_nan _ _ (.inl hn)).2.2.1, ha.2 hn]; rfl

theorem law_div {a : Int} (ha : Cn a) : ROf (Ieee.double.div (ub a) (ub 4607182418800017408)) = a := by
  have ho : ub 4607182418800017408 = one := by decide
  rw [ho]
  rcases hn : rnan (ub a) with _ | _
  · rw [div_one' _ (ub_lt a) (rnan_false hn)]
    exact rbits_ub ha.1 hn
  · rw [(op_nan _ _ (.inl hn)).2.2.2, ha.2 hn]; rfl

theorem run_float_nan {P : Program} (op : BinOp) (hop : op = .add ∨ op = .sub ∨ op = .mul ∨ op = .quo) (t : TypeId) (x y : Nat) (h : floatBits op .f64 x y = none) (w : World) :
    ∃ nb, rnan nb = true ∧ (binOp op t (.float .f64 x) (.float .f64 y)).run P w = .ok (.float .f64 nb) w.drew := by
  refine ⟨_, nan_word (w.tape w.drawn (.nanBits .f64 x y)), ?_⟩
  unfold floatBits at h
  rcases hop with rfl | rfl | rfl | rfl <;> simp only at h <;> simp [binOp, Op.floatArith, h, Question.forced, Question.cut]

theorem run_float_nan_lt {P : Program} (op : BinOp) (hop : op = .add ∨ op = .sub ∨ op = .mul ∨ op = .quo) (t : TypeId) (x y : Nat) (h : floatBits op .f64 x y = none) (w : World) :
    ∃ nb, rnan nb = true ∧ nb < 18446744073709551616 ∧ (binOp op t (.float .f64 x) (.float .f64 y)).run P w = .ok (.float .f64 nb) w.drew := by
  refine ⟨_, nan_word (w.tape w.drawn (.nanBits .f64 x y)), nan_word_lt _, ?_⟩
  unfold floatBits at h
  rcases hop with rfl | rfl | rfl | rfl <;> simp only at h <;> simp [binOp, Op.floatArith, h, Question.forced, Question.cut]

end Go.Proofs.YtelfinhpjokmdaaGreatDoor

namespace Go.Proofs.YtelfinhpjokmdaaGreatDoor
set_option maxRecDepth 100000
open Go.RowKit Go.Joins Go.ChangeShapes Go.WideShapes
set_option linter.unusedVariables false

/-- a row of bytes in memory -/
structure IsB (w : World) (b off : Nat) (l : List Nat) : Prop where
  hb : 0 < l.length → b < w.heap.size
  c : ∀ (i x : Nat), l[i]? = some x → w.cell? ⟨b, off + i, none⟩ = some (.int .u8 (x : Int))
  lt : ∀ x ∈ l, x < 256
theorem IsB.below {w w' : World} {b off : Nat} {l : List Nat} (h : IsB w b off l) (hw : Below w.heap.size w w') : IsB w' b off l := by
  obtain ⟨hc, _⟩ := bcell hw
  refine ⟨fun hl => Nat.lt_of_lt_of_le (h.hb hl) hw.size, fun i x hx => ?_, h.lt⟩
  have hl : 0 < l.length := by have := (List.getElem?_eq_some_iff.1 hx).1; omega
  rw [hc _ _ (h.hb hl)]
  exact h.c i x hx
theorem OwB.isB {w : World} {base : Nat} {v : Value} {l : List Nat} (h : OwB w base v l) (hl : ∀ x ∈ l, x < 256) : ∃ g cap, v = .slice (some ⟨g, 0, none⟩) l.length cap ∧ IsB w g 0 l ∧ base ≤ g := by
  obtain ⟨g, cap, e, hb, hg, hc⟩ := h.form
  refine ⟨g, cap, e, ⟨fun _ => hg, fun i x hx => ?_, hl⟩, hb⟩
  rw [Nat.zero_add]
  refine hc i _ ?_
  simp only [bcells, List.getElem?_map, hx, Option.map_some]
/-- a row that has a byte shows its address -/
theorem IsB.drop {w : World} {b off : Nat} {l : List Nat} (h : IsB w b off l) (k : Nat) : IsB w b (off + k) (l.drop k) :=
  ⟨fun hl => h.hb (by rw [List.length_drop] at hl; omega), fun i x hx => by rw [List.getElem?_drop] at hx; rw [Nat.add_assoc]; exact h.c _ _ hx, fun x hx => h.lt x (List.mem_of_mem_drop hx)⟩
theorem IsB.take {w : World} {b off : Nat} {l : List Nat} (h : IsB w b off l) (k : Nat) : IsB w b off (l.take k) :=
  ⟨fun hl => h.hb (by rw [List.length_take] at hl; omega), fun i x hx => h.c i x (by rw [List.getElem?_take] at hx; split at hx; exact hx; cases hx), fun x hx => h.lt x (List.mem_of_mem_take hx)⟩

/-- which row of bytes comes first -/
def ordB : List Nat → List Nat → Int
  | [], [] => 0
  | [], _ :: _ => -1
  | _ :: _, [] => 1
  | a :: l, b :: r => if a < b then -1 else if b < a then 1 else ordB l r
theorem ordB_step {l r : List Nat} {k x y : Nat} (hx : l[k]? = some x) (hy : r[k]? = some y) : ordB (l.drop k) (r.drop k) = if x < y then -1 else if y < x then 1 else ordB (l.drop (k + 1)) (r.drop (k + 1)) := by
  obtain ⟨h1, e1⟩ := List.getElem?_eq_some_iff.1 hx
  obtain ⟨h2, e2⟩ := List.getElem?_eq_some_iff.1 hy
  rw [List.drop_eq_getElem_cons h1, List.drop_eq_getElem_cons h2, e1, e2]
  rfl
theorem ordB_l {l r : List Nat} {k : Nat} (h : k = l.length) (h2 : k ≤ r.length) : ordB (l.drop k) (r.drop k) = if l.length < r.length then -1 else 0 := by
  subst h
  rw [List.drop_length]
  by_cases c : l.length < r.length
  · rw [List.drop_eq_getElem_cons c, if_pos c]; rfl
  · rw [List.drop_eq_nil_of_le (by omega), if_neg c]; rfl
theorem ordB_r {l r : List Nat} {k : Nat} (h : k = r.length) (h2 : k < l.length) : ordB (l.drop k) (r.drop k) = 1 := by
  subst h
  rw [List.drop_length, List.drop_eq_getElem_cons h2]
  rfl

/-- does a row begin with another one? -/
theorem begins_take {l r : List Nat} (h : r.length ≤ l.length) : l.take r.length = r ↔ ∀ k, k < r.length → l[k]? = r[k]? := by
  constructor
  · intro e k hk
    rw [← e, List.getElem?_take, if_pos hk]
  · intro e
    apply List.ext_getElem?
    intro k
    rw [List.getElem?_take]
    by_cases c : k < r.length
    · rw [if_pos c, e k c]
    · rw [if_neg c, List.getElem?_eq_none (by omega)]

end Go.Proofs.YtelfinhpjokmdaaGreatDoor

namespace Go.Proofs.YtelfinhpjokmdaaGreatDoor
set_option maxRecDepth 100000
open Go.RowKit Go.Joins Go.ChangeShapes Go.WideShapes
set_option linter.unusedVariables false

/-- a set of blocks -/
abbrev Bl := Nat → Prop
/-- from w to w' only the blocks of F, and new ones, have turned -/
structure Frm (F : Bl) (w w' : World) : Prop where
  os : w'.os = w.os
  tape : w'.tape = w.tape
  output : w'.output = w.output
  size : w.heap.size ≤ w'.heap.size
  block : ∀ k, k < w.heap.size → ¬ F k → w'.heap[k]? = w.heap[k]?
/-- F' has nothing of the old but F's -/
def New (w : World) (F F' : Bl) : Prop := ∀ k, F' k → F k ∨ w.heap.size ≤ k
theorem New.refl (w : World) (F : Bl) : New w F F := fun _ h => .inl h
theorem New.trans {w w1 : World} {F F1 F2 : Bl} (h : New w F F1) (h2 : New w1 F1 F2) (hs : w.heap.size ≤ w1.heap.size) : New w F F2 := fun k hk => by
  rcases h2 k hk with g | g
  · exact h k g
  · exact .inr (Nat.le_trans hs g)
theorem Frm.refl (F : Bl) (w : World) : Frm F w w := ⟨rfl, rfl, rfl, Nat.le_refl _, fun _ _ _ => rfl⟩
theorem Frm.trans {F F1 : Bl} {w w1 w2 : World} (h : Frm F w w1) (h2 : Frm F1 w1 w2) (hn : New w F F1) : Frm F w w2 :=
  ⟨h2.os.trans h.os, h2.tape.trans h.tape, h2.output.trans h.output, Nat.le_trans h.size h2.size, fun k hk hf => (h2.block k (Nat.lt_of_lt_of_le hk h.size) (fun hc => by
    rcases hn k hc with g | g
    · exact hf g
    · omega)).trans (h.block k hk hf)⟩
theorem Frm.mono {F F1 : Bl} {w w1 : World} (h : Frm F w w1) (hs : ∀ k, F k → F1 k) : Frm F1 w w1 := ⟨h.os, h.tape, h.output, h.size, fun k hk hf => h.block k hk (fun g => hf (hs k g))⟩
theorem Frm.of_below {F : Bl} {w w1 : World} (h : Below w.heap.size w w1) : Frm F w w1 := ⟨h.os, h.tape, h.output, h.size, fun k hk _ => h.block k hk⟩
theorem Frm.below {F : Bl} {w w1 : World} {B : Nat} (h : Frm F w w1) (hF : ∀ k, F k → B ≤ k) (hB : B ≤ w.heap.size) : Below B w w1 :=
  ⟨h.os, h.tape, h.output, h.size, fun k hk => h.block k (Nat.lt_of_lt_of_le hk hB) (fun g => by have := hF k g; omega)⟩
theorem Frm.nothing {w w1 : World} (h : Frm (fun _ => False) w w1) : Below w.heap.size w w1 := h.below (fun _ h => h.elim) (Nat.le_refl _)
theorem Frm.drew {F : Bl} {w w1 : World} (h : Frm F w w1) : Frm F w w1.drew := ⟨h.os, h.tape, h.output, h.size, h.block⟩
theorem Frm.alloc {F : Bl} {w w1 : World} (h : Frm F w w1) (o : Obj) : Frm F w (w1.alloc o) := h.trans (Frm.of_below ((Below.refl _ _).alloc (Nat.le_refl _) _)) (New.refl _ _)
theorem Frm.set1 {F : Bl} (w : World) {g : Nat} (hg : F g) (o : Nat) (u : Value) : Frm F w (w.setCell ⟨g, o, none⟩ u) :=
  ⟨rfl, rfl, rfl, by simp [World.setCell], fun k _ hf => heap_setCell_other w ⟨g, o, none⟩ k u (fun e => hf (by simp at e; subst e; exact hg))⟩
theorem Frm.setCell {F : Bl} {w w1 : World} (h : Frm F w w1) {g : Nat} (hg : F g ∨ w.heap.size ≤ g) (o : Nat) (u : Value) : Frm F w (w1.setCell ⟨g, o, none⟩ u) :=
  h.trans (F1 := fun k => k = g) (Frm.set1 w1 (F := fun k => k = g) rfl o u) (fun k hk => by subst hk; exact hg)
theorem Frm.grown {F : Bl} {w w1 w2 : World} {row : Option Nat} (h : Frm F w w1) (hg : w1.grownBy w2 row) (hr : ∀ k, row = some k → F k ∨ w.heap.size ≤ k) : Frm F w w2 :=
  h.trans (F1 := fun k => row = some k) ⟨hg.os, hg.tape, hg.output, hg.size, fun k hk hf => hg.block k hk (fun e => hf e.symm)⟩ hr
theorem Frm.step {F : Bl} {w w1 w2 : World} (h : Frm F w w1) (hb : Below w1.heap.size w1 w2) : Frm F w w2 := h.trans (Frm.of_below (F := F) hb) (New.refl _ _)
theorem Frm.heap {F : Bl} {w w1 : World} (h : Frm F w w1) {g : Nat} (hg : g < w.heap.size) (hf : ¬ F g) : w1.heap[g]? = w.heap[g]? := h.block g hg hf
theorem Frm.cell {F : Bl} {w w1 : World} (h : Frm F w w1) {g : Nat} (hg : g < w.heap.size) (hf : ¬ F g) (o : Nat) : w1.cell? ⟨g, o, none⟩ = w.cell? ⟨g, o, none⟩ := World.cell?_of_block (a := ⟨g, o, none⟩) (h.block g hg hf)
theorem Frm.frozen {F : Bl} {w w1 : World} (h : Frm F w w1) {g : Nat} (hg : g < w.heap.size) (hf : ¬ F g) (o : Nat) : w1.frozen? ⟨g, o, none⟩ = w.frozen? ⟨g, o, none⟩ := World.frozen?_of_block (a := ⟨g, o, none⟩) (h.block g hg hf)
theorem Frm.isB {F : Bl} {w w1 : World} (h : Frm F w w1) {b off : Nat} {l : List Nat} (hb : IsB w b off l) (hf : 0 < l.length → ¬ F b) : IsB w1 b off l := by
  refine ⟨fun hl => Nat.lt_of_lt_of_le (hb.hb hl) h.size, fun i x hx => ?_, hb.lt⟩
  have hl : 0 < l.length := by have := (List.getElem?_eq_some_iff.1 hx).1; omega
  rw [h.cell (hb.hb hl) (hf hl)]
  exact hb.c i x hx
theorem Frm.ownsRow {F : Bl} {w w1 : World} (h : Frm F w w1) {base : Nat} {e : TypeId} {size : Nat} {v : Value} {n : Nat} {xs : List Value} (ho : w.ownsRow base e size v n xs) (hf : ∀ k, v.ownBlock = some k → ¬ F k) : w1.ownsRow base e size v n xs := by
  refine ⟨ho.1, ?_⟩
  rcases ho.2 with hn | ⟨g, cap, cur, rfl, hb, hg, rest⟩
  · exact .inl hn
  · exact .inr ⟨g, cap, cur, rfl, hb, (h.block g (Array.getElem?_eq_some_iff.1 hg).1 (hf g rfl)).trans hg, rest⟩

end Go.Proofs.YtelfinhpjokmdaaGreatDoor

namespace Go.Proofs.YtelfinhpjokmdaaGreatDoor
set_option maxRecDepth 100000
set_option linter.unusedVariables false
set_option linter.unnecessarySimpa false
set_option linter.unusedSimpArgs false

abbrev Eg := Int × Int
/-- a number put where it belongs, once -/
def insS (x : Int) : List Int → List Int
  | [] => [x]
  | y :: r => if x < y then x :: y :: r else if x = y then y :: r else y :: insS x r
theorem mem_insS (x z : Int) : ∀ l, z ∈ insS x l ↔ z = x ∨ z ∈ l
  | [] => by simp [insS]
  | y :: r => by
    unfold insS
    by_cases h1 : x < y
    · rw [if_pos h1]; simp
    · rw [if_neg h1]
      by_cases h2 : x = y
      · rw [if_pos h2, h2]; simp
      · rw [if_neg h2, List.mem_cons, mem_insS x z r, List.mem_cons]
        constructor
        · rintro (h | h | h)
          · exact .inr (.inl h)
          · exact .inl h
          · exact .inr (.inr h)
        · rintro (h | h | h)
          · exact .inr (.inl h)
          · exact .inl h
          · exact .inr (.inr h)
theorem insS_sorted (x : Int) : ∀ l, l.Pairwise (· < ·) → (insS x l).Pairwise (· < ·)
  | [], _ => by simp [insS]
  | y :: r, h => by
    unfold insS
    have h1 := List.pairwise_cons.1 h
    by_cases c1 : x < y
    · rw [if_pos c1]
      refine List.pairwise_cons.2 ⟨fun z hz => ?_, h⟩
      rcases List.mem_cons.1 hz with e | e
      · omega
      · have := h1.1 z e; omega
    · rw [if_neg c1]
      by_cases c2 : x = y
      · rw [if_pos c2]; exact h
      · rw [if_neg c2]
        refine List.pairwise_cons.2 ⟨fun z hz => ?_, insS_sorted x r h1.2⟩
        rcases (mem_insS x z r).1 hz with e | e
        · omega
        · exact h1.1 z e
/-- those for which one waits, by rising numbers -/
def Sx (E : List Eg) (x : Int) : List Int := (E.filter (fun e => e.1 == x)).foldr (fun e l => insS e.2 l) []
theorem mem_Sx (x y : Int) : ∀ E : List Eg, y ∈ Sx E x ↔ (x, y) ∈ E
  | [] => by simp [Sx]
  | e :: E => by
    have ih := mem_Sx x y E
    unfold Sx at ih ⊢
    by_cases h : e.1 = x
    · rw [List.filter_cons_of_pos (by simpa using h), List.foldr_cons, mem_insS, ih, List.mem_cons]
      constructor
      · rintro (g | g)
        · exact .inl (by rw [g, ← h])
        · exact .inr g
      · rintro (g | g)
        · exact .inl (by rw [← g])
        · exact .inr g
    · rw [List.filter_cons_of_neg (by simpa using h), ih, List.mem_cons]
      constructor
      · exact .inr
      · rintro (g | g)
        · exact absurd (by rw [← g]) h
        · exact g
theorem Sx_sorted (x : Int) : ∀ E : List Eg, (Sx E x).Pairwise (· < ·)
  | [] => by simp [Sx]
  | e :: E => by
    have ih := Sx_sorted x E
    unfold Sx at ih ⊢
    by_cases h : e.1 = x
    · rw [List.filter_cons_of_pos (by simpa using h), List.foldr_cons]
      exact insS_sorted _ _ ih
    · rw [List.filter_cons_of_neg (by simpa using h)]
      exact ih
/-- two rising lists of the same numbers are one -/
theorem sorted_eq : ∀ (l r : List Int), l.Pairwise (· < ·) → r.Pairwise (· < ·) → (∀ x, x ∈ l ↔ x ∈ r) → l = r
  | [], [], _, _, _ => rfl
  | [], y :: r, _, _, h => absurd ((h y).2 (List.mem_cons_self ..)) (by simp)
  | x :: l, [], _, _, h => absurd ((h x).1 (List.mem_cons_self ..)) (by simp)
  | x :: l, y :: r, hl, hr, h => by
    have h1 := List.pairwise_cons.1 hl
    have h2 := List.pairwise_cons.1 hr
    have e : x = y := by
      rcases List.mem_cons.1 ((h x).1 (List.mem_cons_self ..)) with g | g
      · exact g
      · rcases List.mem_cons.1 ((h y).2 (List.mem_cons_self ..)) with k | k
        · exact k.symm
        · have a := h2.1 x g
          have b := h1.1 y k
          omega
    subst e
    congr 1
    refine sorted_eq l r h1.2 h2.2 fun z => ?_
    constructor
    · intro hz
      rcases List.mem_cons.1 ((h z).1 (List.mem_cons_of_mem _ hz)) with g | g
      · have := h1.1 z hz; omega
      · exact g
    · intro hz
      rcases List.mem_cons.1 ((h z).2 (List.mem_cons_of_mem _ hz)) with g | g
      · have := h2.1 z hz; omega
      · exact g
theorem Sx_same (E F : List Eg) (h : ∀ e, e ∈ E ↔ e ∈ F) : Sx E = Sx F := by
  funext x
  exact sorted_eq _ _ (Sx_sorted x E) (Sx_sorted x F) fun y => by rw [mem_Sx, mem_Sx, h]
theorem Sx_len (x : Int) : ∀ E : List Eg, (Sx E x).length ≤ E.length
  | [] => by simp [Sx]
  | e :: E => by
    have ih := Sx_len x E
    unfold Sx at ih ⊢
    by_cases h : e.1 = x
    · rw [List.filter_cons_of_pos (by simpa using h), List.foldr_cons]
      have : ∀ (a : Int) (l : List Int), (insS a l).length ≤ l.length + 1 := by
        intro a l
        induction l with
        | nil => simp [insS]
        | cons y r ih => unfold insS; split; simp; split; simp; simp; omega
      have := this e.2 ((E.filter (fun e => e.1 == x)).foldr (fun e l => insS e.2 l) [])
      simp
      omega
    · rw [List.filter_cons_of_neg (by simpa using h)]
      simp
      omega

/-- the way of a search: who is on it, the last one first, with what is left to look at -/
abbrev Way := List (Int × List Int)
def nodes (w : Way) : List Int := (w.map (·.1)).reverse
/-- what the search finds -/
inductive Res (S : Int → List Int) (a : Int) : Way → List Int → List Int → Prop
  | none (met) : Res S a [] met []
  | found (x rem rest met) : a ∈ S x → Res S a ((x, rem) :: rest) met (nodes ((x, rem) :: rest))
  | pop (x rest met out) : a ∉ S x → Res S a rest met out → Res S a ((x, []) :: rest) met out
  | skip (x y r rest met out) : a ∉ S x → y ∈ met → Res S a ((x, r) :: rest) met out → Res S a ((x, y :: r) :: rest) met out
  | enter (x y r rest met out) : a ∉ S x → y ∉ met → Res S a ((y, S y) :: (x, r) :: rest) (y :: met) out → Res S a ((x, y :: r) :: rest) met out
theorem Res.one {S : Int → List Int} {a : Int} {w : Way} {m o : List Int} (h : Res S a w m o) : ∀ o', Res S a w m o' → o = o' := by
  induction h with
  | none => intro o' h; cases h; rfl
  | found x rem rest met h0 =>
    intro o' h
    cases h with
    | found => rfl
    | pop _ _ _ _ h1 => exact absurd h0 h1
    | skip _ _ _ _ _ _ h1 => exact absurd h0 h1
    | enter _ _ _ _ _ _ h1 => exact absurd h0 h1
  | pop x rest met out h0 _ ih =>
    intro o' h
    cases h with
    | found _ _ _ _ h1 => exact absurd h1 h0
    | pop _ _ _ _ h1 h2 => exact ih _ h2
  | skip x y r rest met out h0 hy _ ih =>
    intro o' h
    cases h with
    | found _ _ _ _ h1 => exact absurd h1 h0
    | skip _ _ _ _ _ _ h1 h2 h3 => exact ih _ h3
    | enter _ _ _ _ _ _ h1 h2 h3 => exact absurd hy h2
  | enter x y r rest met out h0 hy _ ih =>
    intro o' h
    cases h with
    | found _ _ _ _ h1 => exact absurd h1 h0
    | skip _ _ _ _ _ _ h1 h2 h3 => exact absurd h2 hy
    | enter _ _ _ _ _ _ h1 h2 h3 => exact ih _ h3
/-- one can come from one to another along the edges, by one at least -/
inductive Rch (S : Int → List Int) : Int → Int → Prop
  | one (x y) : y ∈ S x → Rch S x y
  | step (x y z) : y ∈ S x → Rch S y z → Rch S x z
theorem Rch.snoc {S : Int → List Int} {x y z : Int} (h : Rch S x y) (hz : z ∈ S y) : Rch S x z := by
  induction h with
  | one x y h0 => exact .step x y z h0 (.one y z hz)
  | step x y u h0 _ ih => exact .step x y z h0 (ih hz)
theorem Rch.trans {S : Int → List Int} {x y z : Int} (h : Rch S x y) (hz : Rch S y z) : Rch S x z := by
  induction h with
  | one x y h0 => exact .step x y z h0 hz
  | step x y u h0 _ ih => exact .step x y z h0 (ih hz)
/-- each of a way waits for the next; the last one first -/
def Chn (S : Int → List Int) : List Int → Prop
  | [] => True
  | [_] => True
  | y :: x :: r => y ∈ S x ∧ Chn S (x :: r)
structure SInv (S : Int → List Int) (a : Int) (w : Way) (met : List Int) : Prop where
  nd : (w.map (·.1)).Nodup
  inm : ∀ p ∈ w, p.1 ∈ met
  ch : Chn S (w.map (·.1))
  bot : w = [] ∨ ∃ r, (w.map (·.1)).reverse = a :: r
  am : a ∈ met
  fin : ∀ u ∈ met, (∀ p ∈ w, p.1 ≠ u) → a ∉ S u ∧ ∀ y ∈ S u, y ∈ met
  use : ∀ p ∈ w, ∀ y ∈ S p.1, y ∈ p.2 ∨ y ∈ met
  sub : ∀ p ∈ w, ∀ y ∈ p.2, y ∈ S p.1
/-- what a search finds is a cycle, and if it finds none there is none -/
def Real (S : Int → List Int) (a : Int) (out : List Int) : Prop :=
  (out = [] ∧ ¬ Rch S a a) ∨ (∃ r x l, out = a :: r ∧ out.reverse = x :: l ∧ a ∈ S x ∧ out.Nodup ∧ Chn S out.reverse)
theorem nodup_reverse' {l : List Int} (h : l.Nodup) : l.reverse.Nodup := by
  unfold List.Nodup at h ⊢
  rw [List.pairwise_reverse]
  exact h.imp fun h e => h e.symm
theorem Res.real {S : Int → List Int} {a : Int} {w : Way} {m o : List Int} (h : Res S a w m o) : SInv S a w m → Real S a o := by
  induction h with
  | none met =>
    intro hi
    refine .inl ⟨rfl, fun hr => ?_⟩
    have key : ∀ x y, Rch S x y → x ∈ met → y = a → False := by
      intro x y hr
      induction hr with
      | one x y h0 =>
        intro hx hy
        subst hy
        exact (hi.fin x hx (fun p hp => by simp at hp)).1 h0
      | step x y z h0 _ ih =>
        intro hx hy
        exact ih ((hi.fin x hx (fun p hp => by simp at hp)).2 y h0) hy
    exact key a a hr hi.am rfl
  | found x rem rest met h0 =>
    intro hi
    rcases hi.bot with e | ⟨r, e⟩
    · simp at e
    · refine .inr ⟨r, x, rest.map (·.1), e, ?_, h0, ?_, ?_⟩
      · unfold nodes; rw [List.reverse_reverse]; rfl
      · exact nodup_reverse' hi.nd
      · unfold nodes; rw [List.reverse_reverse]; exact hi.ch
  | pop x rest met out h0 _ ih =>
    intro hi
    refine ih ⟨?_, fun p hp => hi.inm p (List.mem_cons_of_mem _ hp), ?_, ?_, hi.am, ?_, fun p hp => hi.use p (List.mem_cons_of_mem _ hp), fun p hp => hi.sub p (List.mem_cons_of_mem _ hp)⟩
    · exact (List.nodup_cons.1 hi.nd).2
    · have := hi.ch
      cases rest with
      | nil => trivial
      | cons p r => exact this.2
    · rcases hi.bot with e | ⟨r, e⟩
      · simp at e
      · cases rest with
        | nil => exact .inl rfl
        | cons p r' =>
          right
          have e2 : ((p :: r').map (·.1)).reverse ++ [x] = a :: r := by simpa using e
          cases hq : ((p :: r').map (·.1)).reverse with
          | nil => simp at hq
          | cons q s =>
            rw [hq] at e2
            injection e2 with e3 e4
            exact ⟨s, by rw [e3]⟩
    · intro u hu hne
      by_cases c : u = x
      · subst c
        refine ⟨h0, fun y hy => ?_⟩
        rcases hi.use (u, []) (List.mem_cons_self ..) y hy with g | g
        · simp at g
        · exact g
      · refine hi.fin u hu fun p hp => ?_
        rcases List.mem_cons.1 hp with g | g
        · rw [g]; exact fun e => c e.symm
        · exact hne p g
  | skip x y r rest met out h0 hy _ ih =>
    intro hi
    refine ih ⟨hi.nd, fun p hp => ?_, hi.ch, ?_, hi.am, fun u hu hne => hi.fin u hu fun p hp => ?_, fun p hp z hz => ?_, fun p hp z hz => ?_⟩
    · rcases List.mem_cons.1 hp with g | g
      · rw [g]; exact hi.inm (x, y :: r) (List.mem_cons_self ..)
      · exact hi.inm p (List.mem_cons_of_mem _ g)
    · rcases hi.bot with e | e
      · simp at e
      · exact .inr e
    · rcases List.mem_cons.1 hp with g | g
      · rw [g]; exact hne (x, r) (List.mem_cons_self ..)
      · exact hne p (List.mem_cons_of_mem _ g)
    · rcases List.mem_cons.1 hp with g | g
      · subst g
        rcases hi.use (x, y :: r) (List.mem_cons_self ..) z hz with k | k
        · rcases List.mem_cons.1 k with q | q
          · exact .inr (q ▸ hy)
          · exact .inl q
        · exact .inr k
      · exact hi.use p (List.mem_cons_of_mem _ g) z hz
    · rcases List.mem_cons.1 hp with g | g
      · subst g; exact hi.sub (x, y :: r) (List.mem_cons_self ..) z (List.mem_cons_of_mem _ hz)
      · exact hi.sub p (List.mem_cons_of_mem _ g) z hz
  | enter x y r rest met out h0 hy _ ih =>
    intro hi
    have hyS : y ∈ S x := hi.sub (x, y :: r) (List.mem_cons_self ..) y (List.mem_cons_self ..)
    refine ih ⟨?_, fun p hp => ?_, ?_, ?_, List.mem_cons_of_mem _ hi.am, fun u hu hne => ?_, fun p hp z hz => ?_, fun p hp z hz => ?_⟩
    · refine List.nodup_cons.2 ⟨fun hc => ?_, hi.nd⟩
      obtain ⟨p, hp, e⟩ := List.mem_map.1 hc
      have hp' : p = (x, r) ∨ p ∈ rest := List.mem_cons.1 hp
      rcases hp' with g | g
      · rw [g] at e
        have e : x = y := e
        exact hy (e ▸ hi.inm (x, y :: r) (List.mem_cons_self ..))
      · have e : p.1 = y := e
        exact hy (e ▸ hi.inm p (List.mem_cons_of_mem _ g))
    · rcases List.mem_cons.1 hp with g | g
      · rw [g]; exact List.mem_cons_self ..
      · rcases List.mem_cons.1 g with g | g
        · rw [g]; exact List.mem_cons_of_mem _ (hi.inm (x, y :: r) (List.mem_cons_self ..))
        · exact List.mem_cons_of_mem _ (hi.inm p (List.mem_cons_of_mem _ g))
    · exact ⟨hyS, hi.ch⟩
    · rcases hi.bot with e | ⟨q, e⟩
      · simp at e
      · refine .inr ⟨q ++ [y], ?_⟩
        show (y :: ((x, y :: r) :: rest).map (·.1)).reverse = _
        rw [List.reverse_cons, e]
        rfl
    · rcases List.mem_cons.1 hu with g | g
      · exact absurd g.symm (hne (y, S y) (List.mem_cons_self ..))
      · obtain ⟨h1, h2⟩ := hi.fin u g fun p hp => by
          rcases List.mem_cons.1 hp with k | k
          · rw [k]; exact hne (x, r) (List.mem_cons_of_mem _ (List.mem_cons_self ..))
          · exact hne p (List.mem_cons_of_mem _ (List.mem_cons_of_mem _ k))
        exact ⟨h1, fun z hz => List.mem_cons_of_mem _ (h2 z hz)⟩
    · rcases List.mem_cons.1 hp with g | g
      · subst g; exact .inl hz
      · rcases List.mem_cons.1 g with g | g
        · subst g
          rcases hi.use (x, y :: r) (List.mem_cons_self ..) z hz with k | k
          · rcases List.mem_cons.1 k with q | q
            · exact .inr (q ▸ List.mem_cons_self ..)
            · exact .inl q
          · exact .inr (List.mem_cons_of_mem _ k)
        · rcases hi.use p (List.mem_cons_of_mem _ g) z hz with k | k
          · exact .inl k
          · exact .inr (List.mem_cons_of_mem _ k)
    · rcases List.mem_cons.1 hp with g | g
      · subst g; exact hz
      · rcases List.mem_cons.1 g with g | g
        · subst g; exact hi.sub (x, y :: r) (List.mem_cons_self ..) z (List.mem_cons_of_mem _ hz)
        · exact hi.sub p (List.mem_cons_of_mem _ g) z hz
/-- at the start -/
theorem SInv.start (S : Int → List Int) (a : Int) : SInv S a [(a, S a)] [a] :=
  ⟨by simp, fun p hp => by simp at hp; simp [hp], trivial, .inr ⟨[], rfl⟩, by simp, fun u hu hne => absurd (by simp at hu; rw [hu]) (hne (a, S a) (by simp)), fun p hp y hy => by simp at hp; subst hp; exact .inl hy, fun p hp y hy => by simp at hp; subst hp; exact hy⟩

end Go.Proofs.YtelfinhpjokmdaaGreatDoor

namespace Go.Proofs.YtelfinhpjokmdaaGreatDoor
set_option maxRecDepth 100000
set_option linter.unusedVariables false
set_option linter.unnecessarySimpa false
set_option linter.unusedSimpArgs false

theorem nodup_len : ∀ (l A : List Int), l.Nodup → (∀ x ∈ l, x ∈ A) → l.length ≤ A.length
  | [], _, _, _ => Nat.zero_le _
  | x :: r, A, h, hs => by
    have h1 := List.nodup_cons.1 h
    have hx := hs x (List.mem_cons_self ..)
    have := nodup_len r (A.erase x) h1.2 fun y hy => (List.mem_erase_of_ne (fun e : y = x => h1.1 (by rw [← e]; exact hy))).2 (hs y (List.mem_cons_of_mem _ hy))
    rw [List.length_erase_of_mem hx] at this
    have := List.length_pos_of_mem hx
    rw [List.length_cons]
    omega
/-- if each has one that waits for it, there is a cycle -/
theorem has_cycle (S : Int → List Int) (A : List Int) (hA : A ≠ []) (h : ∀ u ∈ A, ∃ p ∈ A, u ∈ S p) : ∃ x, Rch S x x := by
  apply Classical.byContradiction
  intro hn
  have key : ∀ n, ∃ u r, (u :: r).length = n + 1 ∧ (∀ x ∈ u :: r, x ∈ A) ∧ (u :: r).Pairwise (Rch S) := by
    intro n
    induction n with
    | zero =>
      cases A with
      | nil => exact absurd rfl hA
      | cons x A => exact ⟨x, [], rfl, fun y hy => by simp at hy; rw [hy]; exact List.mem_cons_self .., by simp⟩
    | succ n ih =>
      obtain ⟨u, r, h1, h2, h3⟩ := ih
      obtain ⟨p, hp, hu⟩ := h u (h2 u (List.mem_cons_self ..))
      refine ⟨p, u :: r, by simp at h1 ⊢; omega, fun y hy => ?_, List.pairwise_cons.2 ⟨fun y hy => ?_, h3⟩⟩
      · rcases List.mem_cons.1 hy with e | e
        · rw [e]; exact hp
        · exact h2 y e
      · rcases List.mem_cons.1 hy with e | e
        · rw [e]; exact .one p u hu
        · exact .step p u y hu ((List.pairwise_cons.1 h3).1 y e)
  obtain ⟨u, r, h1, h2, h3⟩ := key A.length
  have hnd : (u :: r).Nodup := List.Pairwise.imp (fun {a b} (hab : Rch S a b) (e : a = b) => hn ⟨a, by rw [← e] at hab; exact hab⟩) h3
  have := nodup_len _ _ hnd h2
  omega
/-- the last of a way that comes back has one ahead on it -/
theorem Rch.pred {S : Int → List Int} {x y : Int} (h : Rch S x y) : ∃ p, y ∈ S p ∧ (p = x ∨ Rch S x p) := by
  induction h with
  | one x y h0 => exact ⟨x, h0, .inl rfl⟩
  | step x y z h0 _ ih =>
    obtain ⟨p, hp, e⟩ := ih
    refine ⟨p, hp, .inr ?_⟩
    rcases e with e | e
    · rw [e]; exact .one x y h0
    · exact .step x y p h0 e
/-- one that lies on a cycle has one ahead that lies on one -/
theorem cyc_pred {S : Int → List Int} {x : Int} (h : Rch S x x) : ∃ p, x ∈ S p ∧ Rch S p p := by
  obtain ⟨p, hp, e⟩ := h.pred
  refine ⟨p, hp, ?_⟩
  rcases e with e | e
  · rw [e]; exact h
  · exact (Rch.one p x hp).trans e
theorem Rch.start {S : Int → List Int} {x y : Int} (h : Rch S x y) : ∃ z, z ∈ S x := by
  cases h with
  | one _ _ h0 => exact ⟨y, h0⟩
  | step _ z _ h0 _ => exact ⟨z, h0⟩

/-- what is left to look at behind a bound -/
def remX (E : List Eg) (x last : Int) (first : Bool) : List Int := (Sx E x).filter fun y => first || decide (last < y)
theorem remX_first (E : List Eg) (x last : Int) : remX E x last true = Sx E x := by
  unfold remX
  rw [List.filter_eq_self]
  intro y _
  rfl
theorem sorted_filter_gt : ∀ (l : List Int) (y : Int) (r : List Int) (p : Int → Bool), l.Pairwise (· < ·) → l.filter p = y :: r → (∀ a b, a < b → p a = true → p b = true) → l.filter (fun z => decide (y < z)) = r
  | [], y, r, p, _, h, _ => by simp at h
  | x :: l, y, r, p, hs, h, hm => by
    have h1 := List.pairwise_cons.1 hs
    cases hp : p x with
    | true =>
      rw [List.filter_cons_of_pos hp] at h
      injection h with e1 e2
      subst e1
      rw [List.filter_cons_of_neg (by simp), ← e2]
      refine List.filter_congr fun z hz => ?_
      have := h1.1 z hz
      rw [hm x z this hp]
      simpa using this
    | false =>
      rw [List.filter_cons_of_neg (by simp [hp])] at h
      have hy : y ∈ l := by
        have : y ∈ l.filter p := by rw [h]; exact List.mem_cons_self ..
        exact (List.mem_filter.1 this).1
      have := h1.1 y hy
      rw [List.filter_cons_of_neg (by simp; omega)]
      exact sorted_filter_gt l y r p h1.2 h hm
theorem remX_next (E : List Eg) (x last : Int) (first : Bool) (y : Int) (r : List Int) (h : remX E x last first = y :: r) : remX E x y false = r := by
  unfold remX at h ⊢
  have := sorted_filter_gt (Sx E x) y r _ (Sx_sorted x E) h (fun a b hab hp => by
    cases first with
    | true => rfl
    | false =>
      simp only [Bool.false_or, decide_eq_true_eq] at hp ⊢
      omega)
  rw [← this]
  refine List.filter_congr fun z _ => ?_
  simp
theorem mem_remX (E : List Eg) (x last : Int) (first : Bool) (y : Int) : y ∈ remX E x last first ↔ (x, y) ∈ E ∧ (first = true ∨ last < y) := by
  unfold remX
  rw [List.mem_filter, mem_Sx]
  simp
theorem remX_sorted (E : List Eg) (x last : Int) (first : Bool) : (remX E x last first).Pairwise (· < ·) := (Sx_sorted x E).filter _
/-- the least of what is left -/
theorem remX_least (E : List Eg) (x last : Int) (first : Bool) (y : Int) (hy : y ∈ remX E x last first) (hm : ∀ z ∈ remX E x last first, y ≤ z) : ∃ r, remX E x last first = y :: r := by
  have hs := remX_sorted E x last first
  cases h : remX E x last first with
  | nil => rw [h] at hy; simp at hy
  | cons z r =>
    rw [h] at hy hm hs
    have h1 := hm z (List.mem_cons_self ..)
    rcases List.mem_cons.1 hy with e | e
    · exact ⟨r, by rw [e]⟩
    · have := (List.pairwise_cons.1 hs).1 y e
      omega
/-- a victim's edges taken away -/
def dropV (E : List Eg) (v : Int) : List Eg := E.filter fun e => !(e.1 == v) && !(e.2 == v)
theorem filter_lt {α : Type} {p : α → Bool} : ∀ {l : List α} {x : α}, x ∈ l → p x = false → (l.filter p).length < l.length
  | [], x, h, _ => by simp at h
  | y :: l, x, h, hp => by
    rcases List.mem_cons.1 h with e | e
    · subst e
      rw [List.filter_cons_of_neg (by simp [hp]), List.length_cons]
      have := List.length_filter_le p l
      omega
    · have ih := filter_lt e hp
      cases hy : p y with
      | true => rw [List.filter_cons_of_pos hy, List.length_cons, List.length_cons]; omega
      | false => rw [List.filter_cons_of_neg (by simp [hy]), List.length_cons]; omega
/-- each on a cycle waits for one -/
theorem Real.waits {S : Int → List Int} {a : Int} {o : List Int} (h : Real S a o) (x : Int) (hx : x ∈ o) : ∃ y, y ∈ S x := by
  rcases h with ⟨e, _⟩ | ⟨r, z, l, e, e2, ha, hnd, hc⟩
  · rw [e] at hx; simp at hx
  · have hx2 : x ∈ o.reverse := List.mem_reverse.2 hx
    have key : ∀ (m : List Int) (u : Int), Chn S (u :: m) → (∃ y, y ∈ S u) → ∀ v ∈ u :: m, ∃ y, y ∈ S v := by
      intro m
      induction m with
      | nil => intro u _ hu v hv; simp at hv; rw [hv]; exact hu
      | cons w m ih =>
        intro u hc hu v hv
        rcases List.mem_cons.1 hv with e | e
        · rw [e]; exact hu
        · exact ih w hc.2 ⟨u, hc.1⟩ v e
    rw [e2] at hx2 hc
    exact key l z hc ⟨a, ha⟩ x hx2
/-- how much of a search is left at most -/
def unmet (E : List Eg) (met : List Int) : Nat := (E.filter fun e => !met.contains e.2).length
theorem unmet_lt {E : List Eg} {met : List Int} {x y : Int} (h : (x, y) ∈ E) (hy : y ∉ met) : unmet E (y :: met) < unmet E met := by
  unfold unmet
  have e : (E.filter fun e => !(y :: met).contains e.2) = (E.filter fun e => !met.contains e.2).filter fun e => !(e.2 == y) := by
    rw [List.filter_filter]
    refine List.filter_congr fun z _ => ?_
    simp only [List.contains_cons, Bool.not_or]
  rw [e]
  exact filter_lt (x := (x, y)) (List.mem_filter.2 ⟨h, by simpa using hy⟩) (by simp)
/-- the least number with a property -/
theorem least_ex {p : Nat → Prop} : (∃ n, p n) → ∃ n, p n ∧ ∀ m, p m → n ≤ m := by
  rintro ⟨n, hn⟩
  induction n using Nat.strongRecOn with
  | _ n ih =>
    by_cases h : ∃ m, m < n ∧ p m
    · obtain ⟨m, hm, hp⟩ := h
      exact ih m hm hp
    · exact ⟨n, hn, fun m hp => Nat.le_of_not_lt fun hlt => h ⟨m, hlt, hp⟩⟩
open Classical in
noncomputable def lst (p : Nat → Prop) : Nat := if h : ∃ n, p n ∧ ∀ m, p m → n ≤ m then h.choose else 0
theorem lst_spec {p : Nat → Prop} (h : ∃ n, p n) : p (lst p) := by
  unfold lst
  rw [dif_pos (least_ex h)]
  exact (least_ex h).choose_spec.1
theorem lst_le {p : Nat → Prop} {n : Nat} (h : p n) : lst p ≤ n := by
  unfold lst
  rw [dif_pos (least_ex ⟨n, h⟩)]
  exact (least_ex ⟨n, h⟩).choose_spec.2 n h

end Go.Proofs.YtelfinhpjokmdaaGreatDoor

namespace Go.Proofs.YtelfinhpjokmdaaGreatDoor
set_option maxRecDepth 100000
set_option linter.unusedVariables false
set_option linter.unusedSectionVars false
set_option linter.unnecessarySimpa false
set_option linter.unusedSimpArgs false

/-- a lock, or a wish for one -/
structure Lk (R : Type) where
  txn : Int
  res : R
  mode : Int
deriving DecidableEq
/-- a wish; ch: its transaction has the thing already -/
structure Ws (R : Type) where
  l : Lk R
  ch : Bool
deriving DecidableEq
/-- an order of things -/
structure OrdR (R : Type) where
  lt : R → R → Bool
  irr : ∀ a, lt a a = false
  tr : ∀ a b c, lt a b = true → lt b c = true → lt a c = true
  tot : ∀ a b, lt a b = true ∨ a = b ∨ lt b a = true
/-- the modes -/
structure Mds where
  right : Int → Bool
  tg : Int → Int → Bool
  jn : Int → Int → Int
  cv : Int → Int → Bool
  sym : ∀ a b, tg a b = tg b a
  jn0 : ∀ m, right m = true → jn 0 m = m
  jnr : ∀ a m, (a = 0 ∨ right a = true) → right m = true → right (jn a m) = true
  pos : ∀ m, right m = true → m ≠ 0
  cvl : ∀ a m, (a = 0 ∨ right a = true) → right m = true → cv (jn a m) a = true
  cvr : ∀ a m, (a = 0 ∨ right a = true) → right m = true → cv (jn a m) m = true
  cvt : ∀ a b c, right a = true → right b = true → right c = true → cv a b = true → cv b c = true → cv a c = true
  cvj : ∀ a m, right a = true → right m = true → cv a m = true → jn a m = a
  rfl : ∀ a, right a = true → cv a a = true
  ctg : ∀ a b c, right a = true → right b = true → right c = true → cv a b = true → tg a c = true → tg b c = true

section
variable {R : Type} [DecidableEq R] (O : OrdR R) (M : Mds)
/-- stands ahead -/
def ahd (a b : Lk R) : Prop := O.lt a.res b.res = true ∨ (a.res = b.res ∧ a.txn < b.txn)
instance (a b : Lk R) : Decidable (ahd O a b) := by unfold ahd; infer_instance
/-- the same one's lock of the same thing -/
def keyE (a b : Lk R) : Prop := a.txn = b.txn ∧ a.res = b.res
instance (a b : Lk R) : Decidable (keyE a b) := by unfold keyE; infer_instance
theorem ahd_irr (a : Lk R) : ¬ ahd O a a := by
  rintro (h | ⟨_, h⟩)
  · rw [O.irr] at h; cases h
  · omega
theorem ahd_tr {a b c : Lk R} (h : ahd O a b) (g : ahd O b c) : ahd O a c := by
  rcases h with h | ⟨h1, h2⟩
  · rcases g with g | ⟨g1, g2⟩
    · exact .inl (O.tr _ _ _ h g)
    · exact .inl (by rw [← g1]; exact h)
  · rcases g with g | ⟨g1, g2⟩
    · exact .inl (by rw [h1]; exact g)
    · exact .inr ⟨h1.trans g1, by omega⟩
theorem ahd_tot (a b : Lk R) : ahd O a b ∨ keyE a b ∨ ahd O b a := by
  unfold ahd keyE
  rcases O.tot a.res b.res with h | h | h
  · exact .inl (.inl h)
  · rcases Int.lt_trichotomy a.txn b.txn with g | g | g
    · exact .inl (.inr ⟨h, g⟩)
    · exact .inr (.inl ⟨g, h⟩)
    · exact .inr (.inr (.inr ⟨h.symm, g⟩))
  · exact .inr (.inr (.inl h))
theorem ahd_key {a b : Lk R} (h : ahd O a b) : ¬ keyE a b := by
  rintro ⟨h1, h2⟩
  rcases h with h | ⟨_, h⟩
  · rw [h2, O.irr] at h; cases h
  · omega
theorem ahd_of_key {a b c : Lk R} (h : keyE a b) (g : ahd O b c) : ahd O a c := by
  obtain ⟨h1, h2⟩ := h
  rcases g with g | ⟨g1, g2⟩
  · exact .inl (by rw [h2]; exact g)
  · exact .inr ⟨h2.trans g1, by omega⟩
theorem ahd_of_key' {a b c : Lk R} (h : keyE b c) (g : ahd O a b) : ahd O a c := by
  obtain ⟨h1, h2⟩ := h
  rcases g with g | ⟨g1, g2⟩
  · exact .inl (by rw [← h2]; exact g)
  · exact .inr ⟨g1.trans h2, by omega⟩
/-- in which mode somebody has a thing -/
def mdO : List (Lk R) → Int → R → Int
  | [], _, _ => 0
  | h :: r, t, s => if h.txn = t ∧ h.res = s then h.mode else mdO r t s
/-- a lock given -/
def gv (l : Lk R) : List (Lk R) → List (Lk R)
  | [] => [l]
  | h :: r => if keyE l h then l :: r else if ahd O l h then l :: h :: r else h :: gv l r
abbrev SrtL (H : List (Lk R)) : Prop := H.Pairwise (ahd O)
theorem mem_gv {l x : Lk R} : ∀ {H : List (Lk R)}, SrtL O H → (x ∈ gv O l H ↔ x = l ∨ (x ∈ H ∧ ¬ keyE l x))
  | [], _ => by simp [gv]
  | h :: r, hs => by
    obtain ⟨h1, h2⟩ := List.pairwise_cons.1 hs
    have ih := mem_gv (l := l) (x := x) h2
    unfold gv
    by_cases c : keyE l h
    · rw [if_pos c, List.mem_cons, List.mem_cons]
      constructor
      · rintro (e | e)
        · exact .inl e
        · exact .inr ⟨.inr e, ahd_key O (ahd_of_key O c (h1 x e))⟩
      · rintro (e | ⟨e | e, hk⟩)
        · exact .inl e
        · rw [e] at hk; exact absurd c hk
        · exact .inr e
    · rw [if_neg c]
      by_cases c2 : ahd O l h
      · rw [if_pos c2, List.mem_cons, List.mem_cons]
        constructor
        · rintro (e | e | e)
          · exact .inl e
          · exact .inr ⟨.inl e, by rw [e]; exact c⟩
          · exact .inr ⟨.inr e, ahd_key O (ahd_tr O c2 (h1 x e))⟩
        · rintro (e | ⟨e, _⟩)
          · exact .inl e
          · exact .inr e
      · rw [if_neg c2, List.mem_cons, ih, List.mem_cons]
        constructor
        · rintro (e | e | ⟨e, hk⟩)
          · exact .inr ⟨.inl e, by rw [e]; exact c⟩
          · exact .inl e
          · exact .inr ⟨.inr e, hk⟩
        · rintro (e | ⟨e | e, hk⟩)
          · exact .inr (.inl e)
          · exact .inl e
          · exact .inr (.inr ⟨e, hk⟩)
theorem srt_gv {l : Lk R} : ∀ {H : List (Lk R)}, SrtL O H → SrtL O (gv O l H)
  | [], _ => by simp [gv, SrtL]
  | h :: r, hs => by
    obtain ⟨h1, h2⟩ := List.pairwise_cons.1 hs
    unfold gv
    by_cases c : keyE l h
    · rw [if_pos c]
      exact List.pairwise_cons.2 ⟨fun x hx => ahd_of_key O c (h1 x hx), h2⟩
    · rw [if_neg c]
      by_cases c2 : ahd O l h
      · rw [if_pos c2]
        refine List.pairwise_cons.2 ⟨fun x hx => ?_, hs⟩
        rcases List.mem_cons.1 hx with e | e
        · rw [e]; exact c2
        · exact ahd_tr O c2 (h1 x e)
      · rw [if_neg c2]
        refine List.pairwise_cons.2 ⟨fun x hx => ?_, srt_gv h2⟩
        rcases (mem_gv O h2).1 hx with e | ⟨e, _⟩
        · rw [e]
          rcases ahd_tot O l h with g | g | g
          · exact absurd g c2
          · exact absurd g c
          · exact g
        · exact h1 x e
theorem key_one {H : List (Lk R)} (hs : SrtL O H) {a b : Lk R} (ha : a ∈ H) (hb : b ∈ H) (hk : keyE a b) : a = b := by
  induction H with
  | nil => cases ha
  | cons h r ih =>
    obtain ⟨h1, h2⟩ := List.pairwise_cons.1 hs
    rcases List.mem_cons.1 ha with e | e
    · rcases List.mem_cons.1 hb with g | g
      · rw [e, g]
      · rw [e] at hk; exact absurd hk (ahd_key O (h1 b g))
    · rcases List.mem_cons.1 hb with g | g
      · rw [g] at hk
        exact absurd ⟨hk.1.symm, hk.2.symm⟩ (ahd_key O (h1 a e))
      · exact ih h2 e g
theorem mdO_mem : ∀ {H : List (Lk R)} {t : Int} {s : R}, mdO H t s ≠ 0 → (⟨t, s, mdO H t s⟩ : Lk R) ∈ H
  | [], t, s, h => absurd rfl h
  | ⟨ht, hr, hm⟩ :: r, t, s, h => by
    unfold mdO at h ⊢
    by_cases c : ht = t ∧ hr = s
    · rw [if_pos c, ← c.1, ← c.2]
      exact List.mem_cons_self ..
    · rw [if_neg c] at h ⊢
      exact List.mem_cons_of_mem _ (mdO_mem h)
theorem mdO_of {H : List (Lk R)} (hs : SrtL O H) {h : Lk R} (hm : h ∈ H) : mdO H h.txn h.res = h.mode := by
  induction H with
  | nil => cases hm
  | cons x r ih =>
    obtain ⟨h1, h2⟩ := List.pairwise_cons.1 hs
    unfold mdO
    by_cases c : x.txn = h.txn ∧ x.res = h.res
    · rw [if_pos c, key_one O hs (List.mem_cons_self ..) hm c]
    · rw [if_neg c]
      rcases List.mem_cons.1 hm with e | e
      · rw [e] at c; exact absurd ⟨rfl, rfl⟩ c
      · exact ih h2 e
theorem mdO_none {H : List (Lk R)} {t : Int} {s : R} (h : ∀ x ∈ H, ¬ (x.txn = t ∧ x.res = s)) : mdO H t s = 0 := by
  induction H with
  | nil => rfl
  | cons x r ih =>
    unfold mdO
    rw [if_neg (h x (List.mem_cons_self ..))]
    exact ih fun y hy => h y (List.mem_cons_of_mem _ hy)
theorem mdO_gv {H : List (Lk R)} (hs : SrtL O H) (l : Lk R) (hl : l.mode ≠ 0) (hp : ∀ x ∈ H, x.mode ≠ 0) (t : Int) (s : R) : mdO (gv O l H) t s = if l.txn = t ∧ l.res = s then l.mode else mdO H t s := by
  have hg := srt_gv O (l := l) hs
  by_cases c : l.txn = t ∧ l.res = s
  · rw [if_pos c, ← c.1, ← c.2]
    exact mdO_of O hg ((mem_gv O hs).2 (.inl rfl))
  · rw [if_neg c]
    by_cases z : mdO H t s = 0
    · rw [z]
      refine mdO_none fun x hx => ?_
      rcases (mem_gv O hs).1 hx with e | ⟨e, _⟩
      · rw [e]; exact c
      · rintro ⟨h1, h2⟩
        have := mdO_of O hs e
        rw [h1, h2, z] at this
        exact hp x e this.symm
    · have hm := mdO_mem z
      have := mdO_of O hg ((mem_gv O hs).2 (.inr ⟨hm, fun hk => c ⟨hk.1, hk.2⟩⟩))
      exact this
/-- can a wish be granted? -/
def can (H : List (Lk R)) (l : Lk R) : Bool := H.all fun h => !(decide (h.res = l.res) && !decide (h.txn = l.txn) && !M.tg h.mode l.mode)
theorem can_iff {H : List (Lk R)} {l : Lk R} : can M H l = true ↔ ∀ h ∈ H, h.res = l.res → h.txn ≠ l.txn → M.tg h.mode l.mode = true := by
  unfold can
  rw [List.all_eq_true]
  constructor
  · intro h x hx h1 h2
    have := h x hx
    simpa [h1, h2] using this
  · intro h x hx
    by_cases h1 : x.res = l.res
    · by_cases h2 : x.txn = l.txn
      · simp [h1, h2]
      · simp [h1, h2, h x hx h1 h2]
    · simp [h1]
/-- all locks of one thing go together -/
def Clean (H : List (Lk R)) : Prop := ∀ a ∈ H, ∀ b ∈ H, a.res = b.res → a.txn ≠ b.txn → M.tg a.mode b.mode = true
theorem Clean.gv {H : List (Lk R)} (hs : SrtL O H) (hc : Clean M H) {l : Lk R} (hl : can M H l = true) : Clean M (gv O l H) := by
  rw [can_iff] at hl
  intro a ha b hb hr ht
  rcases (mem_gv O hs).1 ha with e | ⟨e, _⟩
  · rcases (mem_gv O hs).1 hb with g | ⟨g, _⟩
    · rw [e, g] at ht; exact absurd rfl ht
    · rw [e] at hr ht ⊢
      rw [M.sym]
      exact hl b g hr.symm (Ne.symm ht)
  · rcases (mem_gv O hs).1 hb with g | ⟨g, _⟩
    · rw [g] at hr ht ⊢
      exact hl a e hr ht
    · exact hc a e b g hr ht
end

end Go.Proofs.YtelfinhpjokmdaaGreatDoor
