/-
  Rows of bytes that lie in memory; contracts over the translation: their order, whether one begins with another, what comes behind (haspref05's Order, Begins, Behind).
  Conditions: the rows lie in memory.
-/
import Derived.Test.YtncganfjbalkgaaByt1
import Derived.Test.YtncganfjbalkgaaPlain1
import Derived.Deep.DeepCutAuto
import Derived.Deep.QuietTactic
import Derived.BigQuiet
namespace Go.Proofs.Ytncganfjbalkgaa
open Go.RowKit Go.Joins Go.ChangeShapes Go.WideShapes
set_option linter.unusedVariables false

/-- a row of bytes in memory -/
structure IsB (w : World) (b off : Nat) (l : List Nat) : Prop where
  hb : 0 < l.length → b < w.heap.size
  c : ∀ (i x : Nat), l[i]? = some x → w.cell? ⟨b, off + i, none⟩ = some (.int .u8 (x : Int))
  lt : ∀ x ∈ l, x < 256
theorem IsB.below {w w' : World} {b off : Nat} {l : List Nat} (h : IsB w b off l) (hw : Below w.heap.size w w') : IsB w' b off l := by
  obtain ⟨hc, _⟩ := bcell hw
  refine ⟨fun hl => Nat.lt_of_lt_of_le (h.hb hl) hw.size, fun i x hx => ?_, h.lt⟩
  have hl : 0 < l.length := by have := (List.getElem?_eq_some_iff.1 hx).1; omega
  rw [hc _ _ (h.hb hl)]
  exact h.c i x hx
theorem OwB.isB {w : World} {base : Nat} {v : Value} {l : List Nat} (h : OwB w base v l) (hl : ∀ x ∈ l, x < 256) : ∃ g cap, v = .slice (some ⟨g, 0, none⟩) l.length cap ∧ IsB w g 0 l ∧ base ≤ g := by
  obtain ⟨g, cap, e, hb, hg, hc⟩ := h.form
  refine ⟨g, cap, e, ⟨fun _ => hg, fun i x hx => ?_, hl⟩, hb⟩
  rw [Nat.zero_add]
  refine hc i _ ?_
  simp only [bcells, List.getElem?_map, hx, Option.map_some]
/-- a row that has a byte shows its address -/
theorem IsB.drop {w : World} {b off : Nat} {l : List Nat} (h : IsB w b off l) (k : Nat) : IsB w b (off + k) (l.drop k) :=
  ⟨fun hl => h.hb (by rw [List.length_drop] at hl; omega), fun i x hx => by rw [List.getElem?_drop] at hx; rw [Nat.add_assoc]; exact h.c _ _ hx, fun x hx => h.lt x (List.mem_of_mem_drop hx)⟩
theorem IsB.take {w : World} {b off : Nat} {l : List Nat} (h : IsB w b off l) (k : Nat) : IsB w b off (l.take k) :=
  ⟨fun hl => h.hb (by rw [List.length_take] at hl; omega), fun i x hx => h.c i x (by rw [List.getElem?_take] at hx; split at hx; exact hx; cases hx), fun x hx => h.lt x (List.mem_of_mem_take hx)⟩

set_option maxRecDepth 100000 in
/-- a piece of a row of bytes -/
theorem slice_b (b off m cap i n : Nat) (hn : 0 < n) (h : i + n ≤ cap) (lo hi : Int) (hl : lo = (i : Int)) (hh : hi = (i : Int) + (n : Int)) (w : World) :
    (Instr.slice 29 (.slice (some ⟨b, off, none⟩) m cap) (some (.int .i64 lo)) (some (.int .i64 hi)) none).run Try.prog w = .ok (.slice (some ⟨b, off + i, none⟩) n (cap - i)) w := by
  subst hl hh
  have hs : (sizeOf (Try.prog.elem 29)).run Try.prog w = .ok 1 w := by first | rfl | kernel_rfl
  rw [run_slice_lh w 29 (some ⟨b, off, none⟩) m cap (by kernel_rfl) .i64 .i64 (i : Int) ((i : Int) + (n : Int)) (by omega) (by omega) (by omega), hs]
  have e1 : ((i : Int)).toNat = i := by omega
  have e2 : ((i : Int) + (n : Int)).toNat = i + n := by omega
  have ea : (⟨b, off, none⟩ : Addr).add i = ⟨b, off + i, none⟩ := by unfold Addr.add; split <;> simp_all
  simp only [Result.andThen, sliced, e1, e2, Nat.mul_one]
  rw [if_neg (by omega), Option.map_some, ea]
  congr 2
  omega

/-- which row of bytes comes first -/
def ordB : List Nat → List Nat → Int
  | [], [] => 0
  | [], _ :: _ => -1
  | _ :: _, [] => 1
  | a :: l, b :: r => if a < b then -1 else if b < a then 1 else ordB l r
theorem ordB_step {l r : List Nat} {k x y : Nat} (hx : l[k]? = some x) (hy : r[k]? = some y) : ordB (l.drop k) (r.drop k) = if x < y then -1 else if y < x then 1 else ordB (l.drop (k + 1)) (r.drop (k + 1)) := by
  obtain ⟨h1, e1⟩ := List.getElem?_eq_some_iff.1 hx
  obtain ⟨h2, e2⟩ := List.getElem?_eq_some_iff.1 hy
  rw [List.drop_eq_getElem_cons h1, List.drop_eq_getElem_cons h2, e1, e2]
  rfl
theorem ordB_l {l r : List Nat} {k : Nat} (h : k = l.length) (h2 : k ≤ r.length) : ordB (l.drop k) (r.drop k) = if l.length < r.length then -1 else 0 := by
  subst h
  rw [List.drop_length]
  by_cases c : l.length < r.length
  · rw [List.drop_eq_getElem_cons c, if_pos c]; rfl
  · rw [List.drop_eq_nil_of_le (by omega), if_neg c]; rfl
theorem ordB_r {l r : List Nat} {k : Nat} (h : k = r.length) (h2 : k < l.length) : ordB (l.drop k) (r.drop k) = 1 := by
  subst h
  rw [List.drop_length, List.drop_eq_getElem_cons h2]
  rfl

set_option maxHeartbeats 1000000 in
theorem refOrder_any (a a' : Option Addr) (b off cap b' off' cap' : Nat) (l r : List Nat) (hm : l.length ≤ maxLen) (hn : r.length ≤ maxLen) (w : World)
    (ha : l.length = 0 ∨ a = some ⟨b, off, none⟩) (ha' : r.length = 0 ∨ a' = some ⟨b', off', none⟩) (hA : IsB w b off l) (hB : IsB w b' off' r) :
    Calls Try.prog 28 #[.slice a l.length cap, .slice a' r.length cap'] w fun e w' => e = .returned (.int .i64 (ordB l r)) ∧ Below w.heap.size w w' := by
  have hm' : l.length ≤ 9223372036854775807 := by unfold maxLen at hm; omega
  have hn' : r.length ≤ 9223372036854775807 := by unfold maxLen at hn; omega
  have HA := Lib.hid ha
  have HA' := Lib.hid ha'
  clear hm hn ha ha'
  obtain ⟨m, em⟩ : ∃ m, l.length = m := ⟨_, rfl⟩
  obtain ⟨n, en⟩ : ∃ n, r.length = n := ⟨_, rfl⟩
  have EM := Lib.hid em
  have EN := Lib.hid en
  rw [em, en]
  rw [em] at hm'
  rw [en] at hn'
  clear em en
  go_enter Try.func28, Try.ntmps28
  go_wp2
  go_loopw [5] (fun i wr => ∃ k : Nat, k ≤ m ∧ k ≤ n ∧ i = .int .i64 k ∧ ordB l r = ordB (l.drop k) (r.drop k) ∧ Below w.heap.size w wr) (fun i _ => m - (intOf i).toNat)
  case atStart => exact ⟨0, Nat.zero_le _, Nat.zero_le _, rfl, rfl, Below.refl _ _⟩
  case round =>
    obtain ⟨k, h1, h2, rfl, he, hb⟩ := hrel
    have HE := Lib.hid he
    clear he
    by_cases c1 : k < m
    · have c1' : (k : Int) < (m : Int) := by omega
      by_cases c2 : k < n
      · have c2' : (k : Int) < (n : Int) := by omega
        obtain rfl : a = some ⟨b, off, none⟩ := by rcases HA.out with h | h; (have := EM.out; omega); exact h
        obtain rfl : a' = some ⟨b', off', none⟩ := by rcases HA'.out with h | h; (have := EN.out; omega); exact h
        have hx : l[k]? = some (l[k]'(by rw [EM.out]; exact c1)) := List.getElem?_eq_getElem _
        have hy : r[k]? = some (r[k]'(by rw [EN.out]; exact c2)) := List.getElem?_eq_getElem _
        generalize l[k]'(by rw [EM.out]; exact c1) = x at *
        generalize r[k]'(by rw [EN.out]; exact c2) = y at *
        have a0 := (hA.below hb).c k x hx
        have b0 := (hB.below hb).c k y hy
        have HST := Lib.hid (ordB_step hx hy)
        have HBL := Lib.hid hb
        clear hx hy
        rcases Nat.lt_trichotomy x y with q | q | q
        · have q1 : (x : Int) < (y : Int) := by omega
          go_wp2
          go_quiet (fail)
          go_wp2
          go_ret
          exact ⟨ret_i (by rw [HE.out, HST.out, if_pos q]), HBL.out.trans ⟨rfl, rfl, rfl, Nat.le_refl _, fun _ _ => rfl⟩⟩
        · subst q
          go_wp2
          go_quiet (fail)
          go_wp2
          go_quiet (fail)
          go_wp2
          go_roundw
          case rel => exact ⟨k + 1, by omega, by omega, by go_num, by rw [HE.out, HST.out, if_neg (by omega), if_neg (by omega)], HBL.out.trans ⟨rfl, rfl, rfl, Nat.le_refl _, fun _ _ => rfl⟩⟩
          case measure => simp [intOf]; omega
        · have q1 : decide ((x : Int) < (y : Int)) = false := by simp; omega
          have q2 : (y : Int) < (x : Int) := by omega
          have q3 : decide (x < y) = false := by simp; omega
          go_wp2
          go_quiet (fail)
          go_wp2
          go_quiet (fail)
          go_wp2
          go_ret
          exact ⟨ret_i (by rw [HE.out, HST.out, if_neg (by omega), if_pos q]), HBL.out.trans ⟨rfl, rfl, rfl, Nat.le_refl _, fun _ _ => rfl⟩⟩
      · have c3 : decide ((k : Int) < (n : Int)) = false := by simp; omega
        have c4 : decide ((m : Int) < (n : Int)) = false := by simp; omega
        have c5 : (n : Int) < (m : Int) := by omega
        have hE := ordB_r (l := l) (r := r) (k := k) (by rw [EN.out]; omega) (by rw [EM.out]; omega)
        have HEE := Lib.hid hE
        have HBL := Lib.hid hb
        clear hE
        go_wp2
        go_ret
        exact ⟨ret_i (by rw [HE.out, HEE.out]), HBL.out⟩
    · have c3 : decide ((k : Int) < (m : Int)) = false := by simp; omega
      have c6 : decide ((n : Int) < (m : Int)) = false := by simp; omega
      have hE := ordB_l (l := l) (r := r) (k := k) (by rw [EM.out]; omega) (by rw [EN.out]; omega)
      rw [EM.out, EN.out] at hE
      have HEE := Lib.hid hE
      have HBL := Lib.hid hb
      clear hE
      by_cases q : m < n
      · have c4 : (m : Int) < (n : Int) := by omega
        go_wp2
        go_ret
        exact ⟨ret_i (by rw [HE.out, HEE.out, if_pos q]), HBL.out⟩
      · have c4 : decide ((m : Int) < (n : Int)) = false := by simp; omega
        go_wp2
        go_ret
        exact ⟨ret_i (by rw [HE.out, HEE.out, if_neg q]), HBL.out⟩

/-- does a row begin with another one? -/
theorem begins_take {l r : List Nat} (h : r.length ≤ l.length) : l.take r.length = r ↔ ∀ k, k < r.length → l[k]? = r[k]? := by
  constructor
  · intro e k hk
    rw [← e, List.getElem?_take, if_pos hk]
  · intro e
    apply List.ext_getElem?
    intro k
    rw [List.getElem?_take]
    by_cases c : k < r.length
    · rw [if_pos c, e k c]
    · rw [if_neg c, List.getElem?_eq_none (by omega)]

end Go.Proofs.Ytncganfjbalkgaa
