/-
  Lists of columns: a copy that the caller owns (haspref06.CopyCols), and SameCols of two that agree.
  Conditions: the lists lie in memory.
-/
import Derived.Test.YtpknoclnmhomiabCol
import Derived.Test.YtpknoclnmhomiabVal10
import Derived.Test.YtpknoclnmhomiabBulk
namespace Go.Proofs.Ytpknoclnmhomiab
open Go.RowKit Go.Joins Go.ChangeShapes Go.WideShapes
set_option linter.unusedVariables false

/-- the cells of the first k columns -/
def ccells (mf : Nat → ByteArray) (tf : Nat → Int) (qf : Nat → Bool) : Nat → List Value
  | 0 => []
  | k + 1 => ccells mf tf qf k ++ [.string (mf k), .int .i64 (tf k), .bool (qf k)]
theorem ccells_length (mf : Nat → ByteArray) (tf : Nat → Int) (qf : Nat → Bool) (k : Nat) : (ccells mf tf qf k).length = k * 3 := by
  induction k with
  | zero => rfl
  | succ k ih => simp [ccells, ih]; omega
theorem ccells_at (mf : Nat → ByteArray) (tf : Nat → Int) (qf : Nat → Bool) (i : Nat) : ∀ m, i < m →
    (ccells mf tf qf m)[i * 3]? = some (.string (mf i)) ∧ (ccells mf tf qf m)[i * 3 + 1]? = some (.int .i64 (tf i)) ∧ (ccells mf tf qf m)[i * 3 + 2]? = some (.bool (qf i))
  | 0, h => by omega
  | m + 1, h => by
    have hl := ccells_length mf tf qf m
    unfold ccells
    by_cases c : i < m
    · obtain ⟨h1, h2, h3⟩ := ccells_at mf tf qf i m c
      rw [List.getElem?_append_left (by omega), List.getElem?_append_left (by omega), List.getElem?_append_left (by omega)]
      exact ⟨h1, h2, h3⟩
    · obtain rfl : i = m := by omega
      rw [List.getElem?_append_right (by omega), List.getElem?_append_right (by omega), List.getElem?_append_right (by omega), hl]
      have e0 : i * 3 - i * 3 = 0 := by omega
      have e1 : i * 3 + 1 - i * 3 = 1 := by omega
      have e2 : i * 3 + 2 - i * 3 = 2 := by omega
      rw [e0, e1, e2]
      exact ⟨rfl, rfl, rfl⟩
def OwC (w : World) (base : Nat) (v : Value) (mf : Nat → ByteArray) (tf : Nat → Int) (qf : Nat → Bool) (m : Nat) : Prop := w.ownsRow base 47 3 v m (ccells mf tf qf m) ∧ v ≠ .slice none 0 0
theorem OwC.below {w w' : World} {base : Nat} {v : Value} {mf : Nat → ByteArray} {tf : Nat → Int} {qf : Nat → Bool} {m : Nat} (h : OwC w base v mf tf qf m) (hb : Below w.heap.size w w') : OwC w' base v mf tf qf m :=
  ⟨h.1.kept (row := none) ⟨hb.os, hb.tape, hb.output, hb.size, fun i hi _ => hb.block i hi⟩ (by cases v.ownBlock <;> simp), h.2⟩
theorem OwC.isC {w : World} {base : Nat} {v : Value} {mf : Nat → ByteArray} {tf : Nat → Int} {qf : Nat → Bool} {m : Nat} (h : OwC w base v mf tf qf m) : ∃ g cap, v = .slice (some ⟨g, 0, none⟩) m cap ∧ m ≤ cap ∧ cap ≤ maxLen ∧ base ≤ g ∧ IsC w g 0 m mf tf qf := by
  obtain ⟨⟨h1, h2⟩, h3⟩ := h
  rcases h2 with ⟨e, _⟩ | ⟨g, cap, cur, e, hb, hg, hn, hc, hs, ht⟩
  · exact absurd e h3
  · have hcell : ∀ j u, (ccells mf tf qf m)[j]? = some u → w.cell? ⟨g, j, none⟩ = some u := by
      intro j u hj
      rw [cell_of_block hg j]
      rw [← ht, List.getElem?_take] at hj
      split at hj
      · rw [← Array.getElem?_toList]; exact hj
      · cases hj
    refine ⟨g, cap, e, hn, hc, hb, ⟨fun _ => (Array.getElem?_eq_some_iff.1 hg).1, ?_, ?_, ?_⟩⟩
    all_goals
      intro i hi
      obtain ⟨q1, q2, q3⟩ := ccells_at mf tf qf i m hi
      rw [Nat.zero_add]
    · exact hcell _ _ q1
    · exact hcell _ _ q2
    · exact hcell _ _ q3

/-- a copy that the caller owns -/
theorem copycols_own (a : Option Addr) (m cap b off : Nat) (mf : Nat → ByteArray) (tf : Nat → Int) (qf : Nat → Bool) (hm : m * 32 ≤ 140737488351232) (w : World)
    (ha : m = 0 ∨ a = some ⟨b, off, none⟩) (hA : IsC w b off m mf tf qf) :
    Calls Try.prog 9 #[.slice a m cap] w fun e w' => ∃ v, e = .returned v ∧ OwC w' w.heap.size v mf tf qf m ∧ Below w.heap.size w w' := by
  obtain ⟨i0, hi, hz0, hz1, hz2⟩ := info_parts infoC
  generalize hP : (fun (e : Ending) (w' : World) => ∃ v, e = .returned v ∧ OwC w' w.heap.size v mf tf qf m ∧ Below w.heap.size w w') = P
  have hpost2 : ∀ (v : Value) (w' : World), w'.ownsRow w.heap.size 47 3 v m (ccells mf tf qf m) → v ≠ .slice none 0 0 → Below w.heap.size w w' → P (.returned v) w' := by
    intro v w' h1 h2 h3
    rw [← hP]
    exact ⟨v, rfl, ⟨h1, h2⟩, h3⟩
  have HP := Lib.hid hpost2
  clear hpost2 hP
  go_enter Try.func9, Try.ntmps9
  go_wp2
  go_loopw [3, 4] (fun v i wr => ∃ k : Nat, k ≤ m ∧ i = .int .i64 k ∧ wr.ownsRow w.heap.size 47 3 v k (ccells mf tf qf k) ∧ Below w.heap.size w wr ∧ v ≠ .slice none 0 0) (fun _ i _ => m - (intOf i).toNat)
  case atStart =>
    exact ⟨0, Nat.zero_le _, rfl, World.ownsRow_made w #[] 0 (Nat.le_refl _) (by decide) rfl, (Below.refl _ _).alloc (Nat.le_refl _) _, by simp⟩
  case round =>
    obtain ⟨k, hk, rfl, hown, hb, hne⟩ := hrel
    by_cases hlt : k < m
    · obtain rfl : a = some ⟨b, off, none⟩ := by rcases ha with h | h; omega; exact h
      have hA' := hA.below hb
      have a0 := hA'.c0 k hlt
      have a1 := hA'.c1 k hlt
      have a2 := hA'.c2 k hlt
      have hkm : (k : Int) < (m : Int) := by omega
      clear hA' ha
      have hz := hb.size
      have q1 : ∀ j u, ([.string (mf k), .int .i64 (tf k), .bool (qf k)] : List Value)[j]? = some u → (wr.alloc (.cells #[.string (mf k), .int .i64 (tf k), .bool (qf k)] 47)).cell? ((⟨wr.heap.size, 0, none⟩ : Addr).add j) = some u := World.news_of_block (cs := #[.string (mf k), .int .i64 (tf k), .bool (qf k)]) (heap_alloc_new wr _)
      have q2 : ∀ u ∈ ([.string (mf k), .int .i64 (tf k), .bool (qf k)] : List Value), u.oneCell' = true := by simp [Value.oneCell']
      have q3 : k + 1 ≤ maxLen := by unfold maxLen; omega
      have q4 : (k + 1) * 32 ≤ 140737488355328 := by omega
      have q5 : w.heap.size ≤ (wr.alloc (.cells #[.string (mf k), .int .i64 (tf k), .bool (qf k)] 47)).heap.size := by simp; omega
      have Q1 := Lib.hid q1
      have Q2 := Lib.hid q2
      have Q5 := Lib.hid q5
      have HO := Lib.hid hown
      clear q1 q2 q5 hown
      go_wp2_with (at_builtin; refine wpList_append_own _ rfl _ _ 22 rfl w.heap.size 47 i0 _ 3 32 Try.underlying22 hi hz0 hz1 hz2 rfl (by decide) _ _ _ rfl (HO.out.alloc _) ⟨wr.heap.size, 0, none⟩ 1 1 [.string (mf k), .int .i64 (tf k), .bool (qf k)] rfl rfl Q1.out Q2.out q3 q4 Q5.out ?_; intro v' w1 hown1 hgrow hnil)
      have hb1 : Below w.heap.size w w1 := (hb.alloc hz _).grown hgrow Q5.out (fun k' hk' => (HO.out.lt k' hk').1)
      have hn : v' ≠ .slice none 0 0 := fun e => hne (hnil.1 e).1
      clear hgrow hnil
      go_roundw
      case rel => exact ⟨k + 1, by omega, by go_num, hown1, hb1, hn⟩
      case measure => simp [intOf]; omega
    · have hk1 : ¬ (k : Int) < (m : Int) := by omega
      have hkm : m = k := by omega
      have HK := Lib.hid hkm
      have HO := Lib.hid hown
      clear hkm hown
      go_wp2
      have h1 := HK.out
      subst h1
      exact HP.out _ _ HO.out hne hb

theorem samecols_all (a a' : Option Addr) (b off b' off' m cap cap' : Nat) (mf : Nat → ByteArray) (tf : Nat → Int) (qf : Nat → Bool) (hm : m ≤ maxLen) (w : World)
    (ha : m = 0 ∨ a = some ⟨b, off, none⟩) (ha' : m = 0 ∨ a' = some ⟨b', off', none⟩) (hA : IsC w b off m mf tf qf) (hB : IsC w b' off' m mf tf qf) :
    Calls Try.prog 15 #[.slice a m cap, .slice a' m cap'] w fun e w' => e = .returned (.bool true) ∧ Below w.heap.size w w' := by
  have hm' : m ≤ 9223372036854775807 := by unfold maxLen at hm; omega
  clear hm
  go_enter Try.func15, Try.ntmps15
  go_wp2
  go_loopw [5] (fun i wr => ∃ k : Nat, k ≤ m ∧ i = .int .i64 k ∧ Below w.heap.size w wr) (fun i _ => m - (intOf i).toNat)
  case atStart => exact ⟨0, Nat.zero_le _, rfl, Below.refl _ _⟩
  case round =>
    obtain ⟨k, hk, rfl, hb⟩ := hrel
    by_cases hlt : k < m
    · obtain rfl : a = some ⟨b, off, none⟩ := by rcases ha with h | h; omega; exact h
      obtain rfl : a' = some ⟨b', off', none⟩ := by rcases ha' with h | h; omega; exact h
      have hA' := hA.below hb
      have hB' := hB.below hb
      have a0 := hA'.c0 k (by omega)
      have a1 := hA'.c1 k (by omega)
      have a2 := hA'.c2 k (by omega)
      have b0 := hB'.c0 k (by omega)
      have b1 := hB'.c1 k (by omega)
      have b2 := hB'.c2 k (by omega)
      have hkm : (k : Int) < (m : Int) := by omega
      clear hA' hB'
      go_wp2
      go_quiet (fail)
      go_wp2
      go_roundw
      case rel => exact ⟨k + 1, by omega, by go_num, hb.trans ⟨rfl, rfl, rfl, Nat.le_refl _, fun _ _ => rfl⟩⟩
      case measure => simp [intOf]; omega
    · have hk1 : ¬ (k : Int) < (m : Int) := by omega
      go_wp2
      go_ret
      exact ⟨rfl, hb⟩

end Go.Proofs.Ytpknoclnmhomiab
