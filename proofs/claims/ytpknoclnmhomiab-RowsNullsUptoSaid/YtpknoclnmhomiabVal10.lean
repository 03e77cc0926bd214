/-
  Contracts over the translation: two lists with the same values are the same (SameRow); a list's copy (CopyRow).
  Conditions: the lists lie in memory.
-/
import Derived.Test.YtpknoclnmhomiabVal8
import Derived.Test.YtpknoclnmhomiabEq
import Derived.OwnWalk
import Derived.Laws.AppendOwn
import Derived.Laws.OwnMore
import Derived.Deep.AppendLies
import Derived.Deep.DeepMust
namespace Go.Proofs.Ytpknoclnmhomiab
open Go.RowKit Go.Joins Go.ChangeShapes Go.WideShapes
set_option linter.unusedVariables false

theorem veq_self (k n : Int) (s : ByteArray) : veq k n s k n s = true := by unfold veq; simp

theorem samerow_some (b off m cap b' off' cap' : Nat) (kf nf : Nat → Int) (sf : Nat → ByteArray) (hm : m ≤ maxLen) (w : World)
    (hA : IsV w b off m kf nf sf) (hB : IsV w b' off' m kf nf sf) :
    Calls Try.prog 16 #[.slice (some ⟨b, off, none⟩) m cap, .slice (some ⟨b', off', none⟩) m cap'] w fun e w' => e = .returned (.bool true) ∧ Below w.heap.size w w' := by
  have hm' : m ≤ 9223372036854775807 := by unfold maxLen at hm; omega
  clear hm
  go_enter Try.func16, Try.ntmps16
  go_wp2
  go_loopw [5] (fun i wr => ∃ k : Nat, k ≤ m ∧ i = .int .i64 k ∧ Below w.heap.size w wr) (fun i _ => m - (intOf i).toNat)
  case atStart => exact ⟨0, Nat.zero_le _, rfl, Below.refl _ _⟩
  case round =>
    obtain ⟨k, hk, rfl, hb⟩ := hrel
    by_cases hlt : k < m
    · have hA' := hA.below hb
      have hB' := hB.below hb
      have a0 := hA'.c0 k (by omega)
      have a1 := hA'.c1 k (by omega)
      have a2 := hA'.c2 k (by omega)
      have b0 := hB'.c0 k (by omega)
      have b1 := hB'.c1 k (by omega)
      have b2 := hB'.c2 k (by omega)
      have hkm : (k : Int) < (m : Int) := by omega
      have hv := veq_self (kf k) (nf k) (sf k)
      clear hA' hB'
      go_wp2
      go_quiet (fail)
      go_wp2
      go_roundw
      case rel => exact ⟨k + 1, by omega, by go_num, hb.trans ⟨rfl, rfl, rfl, Nat.le_refl _, fun _ _ => rfl⟩⟩
      case measure => simp [intOf]; omega
    · have hk1 : ¬ (k : Int) < (m : Int) := by omega
      go_wp2
      go_ret
      exact ⟨rfl, hb⟩

theorem samerow_zero (a a' : Option Addr) (cap cap' : Nat) (w : World) :
    Calls Try.prog 16 #[.slice a 0 cap, .slice a' 0 cap'] w fun e w' => e = .returned (.bool true) ∧ Below w.heap.size w w' := by
  go_enter Try.func16, Try.ntmps16
  go_wp2
  go_loopw [5] (fun i wr => i = .int .i64 0 ∧ wr = w) (fun _ _ => 0)
  case atStart => exact ⟨by first | rfl | simp, rfl⟩
  case round =>
    obtain ⟨rfl, rfl⟩ := hrel
    go_wp2
    go_ret
    exact ⟨rfl, Below.refl _ _⟩

theorem infoV : (Try.prog.info? 43).map (fun i => (i.zero, i.size, i.bytes)) = some (some (.agg #[.int .i64 0, .int .i64 0, .string ⟨#[]⟩]), 3, 32) := by kernel_rfl

/-- the cells of the first k values -/
def vcells (kf nf : Nat → Int) (sf : Nat → ByteArray) : Nat → List Value
  | 0 => []
  | k + 1 => vcells kf nf sf k ++ [.int .i64 (kf k), .int .i64 (nf k), .string (sf k)]

theorem vcells_length (kf nf : Nat → Int) (sf : Nat → ByteArray) (k : Nat) : (vcells kf nf sf k).length = k * 3 := by
  induction k with
  | zero => rfl
  | succ k ih => simp [vcells, ih]; omega

theorem vcells_at (kf nf : Nat → Int) (sf : Nat → ByteArray) (i : Nat) : ∀ m, i < m →
    (vcells kf nf sf m)[i * 3]? = some (.int .i64 (kf i)) ∧ (vcells kf nf sf m)[i * 3 + 1]? = some (.int .i64 (nf i)) ∧ (vcells kf nf sf m)[i * 3 + 2]? = some (.string (sf i))
  | 0, h => by omega
  | m + 1, h => by
    have hl := vcells_length kf nf sf m
    unfold vcells
    by_cases c : i < m
    · obtain ⟨h1, h2, h3⟩ := vcells_at kf nf sf i m c
      rw [List.getElem?_append_left (by omega), List.getElem?_append_left (by omega), List.getElem?_append_left (by omega)]
      exact ⟨h1, h2, h3⟩
    · obtain rfl : i = m := by omega
      rw [List.getElem?_append_right (by omega), List.getElem?_append_right (by omega), List.getElem?_append_right (by omega), hl]
      refine ⟨?_, ?_, ?_⟩
      · rw [Nat.sub_self]; rfl
      · rw [show i * 3 + 1 - i * 3 = 1 from by omega]; rfl
      · rw [show i * 3 + 2 - i * 3 = 2 from by omega]; rfl

theorem isV_of_owns {w : World} {base : Nat} {v : Value} {m : Nat} {kf nf : Nat → Int} {sf : Nat → ByteArray} (h : w.ownsRow base 43 3 v m (vcells kf nf sf m)) (hv : v ≠ .slice none 0 0) :
    ∃ g cap', v = .slice (some ⟨g, 0, none⟩) m cap' ∧ IsV w g 0 m kf nf sf := by
  rcases h.2 with ⟨e, _⟩ | ⟨g, cap', cur, e, _, hg, _⟩
  · exact absurd e hv
  · subst e
    refine ⟨g, cap', rfl, ⟨fun _ => (Array.getElem?_eq_some_iff.1 hg).1, fun i hi => ?_, fun i hi => ?_, fun i hi => ?_⟩⟩
    · obtain ⟨h1, h2, h3⟩ := vcells_at kf nf sf i m hi
      rw [Nat.zero_add, h.cellAt _ (by omega)]; exact h1
    · obtain ⟨h1, h2, h3⟩ := vcells_at kf nf sf i m hi
      rw [Nat.zero_add, h.cellAt _ (by omega)]; exact h2
    · obtain ⟨h1, h2, h3⟩ := vcells_at kf nf sf i m hi
      rw [Nat.zero_add, h.cellAt _ (by omega)]; exact h3

theorem copyrow_any (a : Option Addr) (m cap b off : Nat) (kf nf : Nat → Int) (sf : Nat → ByteArray) (hm : m * 32 ≤ 140737488351232) (w : World)
    (ha : m = 0 ∨ a = some ⟨b, off, none⟩) (hA : IsV w b off m kf nf sf) :
    Calls Try.prog 10 #[.slice a m cap] w fun e w' => ∃ g cap', e = .returned (.slice (some ⟨g, 0, none⟩) m cap') ∧ IsV w' g 0 m kf nf sf ∧ Below w.heap.size w w' := by
  obtain ⟨i0, hi, hz0, hz1, hz2⟩ := info_parts infoV
  have hpost : ∀ (v : Value) (w' : World), w'.ownsRow w.heap.size 43 3 v m (vcells kf nf sf m) → v ≠ .slice none 0 0 → Below w.heap.size w w' →
      ∃ g cap', Ending.returned v = .returned (.slice (some ⟨g, 0, none⟩) m cap') ∧ IsV w' g 0 m kf nf sf ∧ Below w.heap.size w w' := by
    intro v w' h1 h2 h3
    obtain ⟨g, cap', rfl, h4⟩ := isV_of_owns h1 h2
    exact ⟨g, cap', rfl, h4, h3⟩
  generalize hP : (fun (e : Ending) (w' : World) => ∃ g cap', e = .returned (.slice (some ⟨g, 0, none⟩) m cap') ∧ IsV w' g 0 m kf nf sf ∧ Below w.heap.size w w') = P
  have hpost2 : ∀ (v : Value) (w' : World), w'.ownsRow w.heap.size 43 3 v m (vcells kf nf sf m) → v ≠ .slice none 0 0 → Below w.heap.size w w' → P (.returned v) w' := by
    intro v w' h1 h2 h3; rw [← hP]; exact hpost v w' h1 h2 h3
  have HP := Lib.hid hpost2
  clear hpost hpost2 hP
  go_enter Try.func10, Try.ntmps10
  go_wp2
  go_loopw [3, 4] (fun v i wr => ∃ k : Nat, k ≤ m ∧ i = .int .i64 k ∧ wr.ownsRow w.heap.size 43 3 v k (vcells kf nf sf k) ∧ Below w.heap.size w wr ∧ v ≠ .slice none 0 0) (fun _ i _ => m - (intOf i).toNat)
  case atStart =>
    exact ⟨0, Nat.zero_le _, rfl, World.ownsRow_made w #[] 0 (Nat.le_refl _) (by decide) rfl, (Below.refl _ _).alloc (Nat.le_refl _) _, by simp⟩
  case round =>
    obtain ⟨k, hk, rfl, hown, hb, hne⟩ := hrel
    by_cases hlt : k < m
    · obtain rfl : a = some ⟨b, off, none⟩ := by rcases ha with h | h; omega; exact h
      have hA' := hA.below hb
      have a0 := hA'.c0 k hlt
      have a1 := hA'.c1 k hlt
      have a2 := hA'.c2 k hlt
      have hkm : (k : Int) < (m : Int) := by omega
      clear hA' ha
      have hz := hb.size
      have q1 : ∀ j u, ([.int .i64 (kf k), .int .i64 (nf k), .string (sf k)] : List Value)[j]? = some u → (wr.alloc (.cells #[.int .i64 (kf k), .int .i64 (nf k), .string (sf k)] 43)).cell? ((⟨wr.heap.size, 0, none⟩ : Addr).add j) = some u := World.news_of_block (cs := #[.int .i64 (kf k), .int .i64 (nf k), .string (sf k)]) (heap_alloc_new wr _)
      have q2 : ∀ u ∈ ([.int .i64 (kf k), .int .i64 (nf k), .string (sf k)] : List Value), u.oneCell' = true := by simp [Value.oneCell']
      have q3 : k + 1 ≤ maxLen := by unfold maxLen; omega
      have q4 : (k + 1) * 32 ≤ 140737488355328 := by omega
      have q5 : w.heap.size ≤ (wr.alloc (.cells #[.int .i64 (kf k), .int .i64 (nf k), .string (sf k)] 43)).heap.size := by simp; omega
      have Q1 := Lib.hid q1
      have Q2 := Lib.hid q2
      have Q5 := Lib.hid q5
      have HO := Lib.hid hown
      clear q1 q2 q5 hown
      go_wp2_with (at_builtin; refine wpList_append_own _ rfl _ _ 23 rfl w.heap.size 43 i0 _ 3 32 Try.underlying23 hi hz0 hz1 hz2 rfl (by decide) _ _ _ rfl (HO.out.alloc _) ⟨wr.heap.size, 0, none⟩ 1 1 [.int .i64 (kf k), .int .i64 (nf k), .string (sf k)] rfl rfl Q1.out Q2.out q3 q4 Q5.out ?_; intro v' w1 hown1 hgrow hnil)
      have hb1 : Below w.heap.size w w1 := (hb.alloc hz _).grown hgrow Q5.out (fun k' hk' => (HO.out.lt k' hk').1)
      have hn : v' ≠ .slice none 0 0 := fun e => hne (hnil.1 e).1
      clear hgrow hnil
      go_roundw
      case rel => exact ⟨k + 1, by omega, by go_num, hown1, hb1, hn⟩
      case measure => simp [intOf]; omega
    · have hk1 : ¬ (k : Int) < (m : Int) := by omega
      have hkm : m = k := by omega
      have HK := Lib.hid hkm
      have HO := Lib.hid hown
      clear hkm hown
      go_wp2
      have h1 := HK.out
      subst h1
      exact HP.out _ _ HO.out hne hb

/-! a list of values that came in -/

def cInt : Option Value → Int | some (.int _ n) => n | _ => 0
def cStr : Option Value → ByteArray | some (.string s) => s | _ => ByteArray.empty

theorem cells_int : Try.prog.cellsOf 3 = 1 := by kernel_rfl
theorem cells_int64 : Try.prog.cellsOf 2 = 1 := by kernel_rfl
theorem cells_string : Try.prog.cellsOf 9 = 1 := by kernel_rfl

theorem open_vals {H : Type} {enc : TypeId × Value → H} {W : World} {base b0 : Nat} {r : Reach} {v : Value} {d : DataW H} {p : List MemPlace}
    (o : Value.okWide Try.prog W r b0 23 v) (h : DataW.Trod enc Try.prog W base (fun _ => true) true 23 v d p) :
    ∃ (a : Option Addr) (len cap b off : Nat) (kf nf : Nat → Int) (sf : Nat → ByteArray), v = .slice a len cap ∧ len ≤ cap ∧ cap ≤ maxLen ∧ (len = 0 ∨ a = some ⟨b, off, none⟩) ∧ IsV W b off len kf nf sf ∧
      ((d = .nil ∧ len = 0) ∨ ∃ es sp, d = .slice es sp ∧ es.length + sp.length = cap) := by
  obtain ⟨a, len, cap, rfl⟩ := okWide_slice Try.underlying23 o
  obtain ⟨fuel, hf⟩ := h
  rcases Go.Deep.open_slice Try.underlying23 hf with ⟨hcs, hx⟩ | ⟨a', len', cap', m, n, D, Pl, hcs, hb, hl, hm, hmm, hx, hi⟩
  · simp [Value.cells] at hcs
    obtain ⟨rfl, rfl, rfl⟩ := hcs
    simp only [Prod.mk.injEq] at hx
    exact ⟨none, 0, 0, 0, 0, fun _ => 0, fun _ => 0, fun _ => ByteArray.empty, rfl, Nat.le_refl _, by decide, .inl rfl, ⟨fun h => absurd h (by decide), fun i hi => absurd hi (by omega), fun i hi => absurd hi (by omega), fun i hi => absurd hi (by omega)⟩, .inl ⟨hx.1, rfl⟩⟩
  · simp [Value.cells] at hcs
    obtain ⟨rfl, rfl, rfl⟩ := hcs
    simp only [Prod.mk.injEq] at hx
    simp only [if_true] at hmm
    subst hmm
    rw [cellsV] at hi
    have hcell : ∀ i, i < len → ∃ k n s, W.cell? (a'.add (i * 3)) = some (.int .i64 k) ∧ W.cell? ((a'.add (i * 3)).add 1) = some (.int .i64 n) ∧ W.cell? ((a'.add (i * 3)).add 2) = some (.string s) := by
      intro i hil
      obtain ⟨cs', hc, ht⟩ := hi i (by omega)
      obtain ⟨y0, y1, y2, n', -, hlen, h0, h1, h2⟩ := Go.Deep.trod_struct3 Try.underlying43 ht
      rw [cellsV] at hlen
      obtain ⟨_, hcl, hat⟩ := World.cells?_some hc
      match cs', hlen with
      | [c0, c1, c2], _ =>
        obtain ⟨k, e0, -, -⟩ := DataW.trod_int Try.underlying3 h0
        obtain ⟨n, e1, -, -⟩ := DataW.trod_int Try.underlying2 h1
        obtain ⟨s, e2, -, -⟩ := DataW.trod_string Try.underlying9 h2
        simp [cells_int, cells_int64, cells_string] at e0 e1 e2
        subst e0 e1 e2
        refine ⟨k, n, s, ?_, ?_, ?_⟩
        · have := hat 0 (by decide)
          simpa [Addr.add] using this
        · exact hat 1 (by decide)
        · exact hat 2 (by decide)
    by_cases h0 : len = 0
    · exact ⟨_, _, _, 0, 0, fun _ => 0, fun _ => 0, fun _ => ByteArray.empty, rfl, hl, hm, .inl h0, ⟨fun h => by omega, fun i hi => by omega, fun i hi => by omega, fun i hi => by omega⟩,
        .inr ⟨_, _, hx.1, by simp; omega⟩⟩
    · have hsp : a'.spot = none := by
        obtain ⟨k, n, s, c, -, -⟩ := hcell 0 (by omega)
        simpa [Addr.add] using World.cell?_spot c
      obtain ⟨b, off, spot⟩ := a'
      simp only at hsp
      subst hsp
      have ea : ∀ j, (⟨b, off, none⟩ : Addr).add j = ⟨b, off + j, none⟩ := by intro j; unfold Addr.add; split <;> simp_all
      have hlt : b < W.heap.size := by
        obtain ⟨k, n, s, c, -, -⟩ := hcell 0 (by omega)
        rw [ea] at c
        exact World.block_lt_of_cell? W _ c
      refine ⟨some ⟨b, off, none⟩, _, _, b, off, fun i => cInt (W.cell? ⟨b, off + i * 3, none⟩), fun i => cInt (W.cell? ⟨b, off + i * 3 + 1, none⟩), fun i => cStr (W.cell? ⟨b, off + i * 3 + 2, none⟩), rfl, hl, hm, .inr rfl, ⟨fun _ => hlt, fun i hil => ?_, fun i hil => ?_, fun i hil => ?_⟩, .inr ⟨_, _, hx.1, by simp; omega⟩⟩
      · obtain ⟨k, n, s, c0, c1, c2⟩ := hcell i hil
        rw [ea] at c0
        rw [c0]; rfl
      · obtain ⟨k, n, s, c0, c1, c2⟩ := hcell i hil
        rw [Go.Deep.add_add, ea, ← Nat.add_assoc] at c1
        rw [c1]; rfl
      · obtain ⟨k, n, s, c0, c1, c2⟩ := hcell i hil
        rw [Go.Deep.add_add, ea, ← Nat.add_assoc] at c2
        rw [c2]; rfl

end Go.Proofs.Ytpknoclnmhomiab
