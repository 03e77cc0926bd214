/-
  A tree's shape in memory; the document's Sound of it (haspref07): a sound shape is told so.
  Conditions: the shape lies in memory.
-/
import Derived.Test.YtncganfjbalkgaaHp4
namespace Go.Proofs.Ytncganfjbalkgaa
open Go.RowKit Go.Joins Go.ChangeShapes Go.WideShapes
set_option linter.unusedVariables false

def isum : List Int → Int
  | [] => 0
  | x :: r => x + isum r
def shLow (i m : Nat) : Int := if i = 0 then (if m = 1 then 0 else 2) else 4
/-- a sound shape of n entries -/
structure ShOk (sh : List (List Int)) (n : Int) : Prop where
  len1 : 1 ≤ sh.length
  len64 : sh.length ≤ 64
  top : ∀ r, sh[0]? = some r → r.length = 1
  el : ∀ (i : Nat) (r : List Int) (x : Int), sh[i]? = some r → x ∈ r → shLow i sh.length ≤ x ∧ x ≤ 8
  mid : ∀ (i : Nat) (r r' : List Int), sh[i]? = some r → sh[i + 1]? = some r' → isum r = (r'.length : Int)
  last : ∀ (i : Nat) (r : List Int), sh[i]? = some r → i + 1 = sh.length → isum r = n
  big : ∀ r ∈ sh, r.length ≤ 4294967296
/-- lists of whole numbers in memory -/
def IsNN (w : World) (g off : Nat) (sh : List (List Int)) : Prop := ∀ (i : Nat) (r : List Int), sh[i]? = some r → ∃ (a : Option Addr) (b o cap : Nat), w.cell? ⟨g, off + i, none⟩ = some (.slice a r.length cap) ∧ (r.length = 0 ∨ a = some ⟨b, o, none⟩) ∧ IsN w b o r

set_option maxRecDepth 100000 in
set_option maxHeartbeats 4000000 in
/-- haspref07.Sound of a sound shape -/
theorem refsound_any (g off cap : Nat) (sh : List (List Int)) (n : Int) (w : World) (h : ShOk sh n) (hA : IsNN w g off sh) :
    Calls Try.prog 23 #[.slice (some ⟨g, off, none⟩) sh.length cap, .int .i64 n] w fun e w' => e = .returned (.bool true) ∧ w = w' := by
  have H := Lib.hid h
  have HA := Lib.hid hA
  obtain ⟨m, em⟩ : ∃ m, sh.length = m := ⟨_, rfl⟩
  have EM := Lib.hid em
  have hm1 : 1 ≤ m := by have := h.len1; omega
  have hm64 : m ≤ 64 := by have := h.len64; omega
  rw [em]
  obtain ⟨r0, hr0⟩ : ∃ r0, sh[0]? = some r0 := ⟨sh[0]'(by omega), List.getElem?_eq_getElem _⟩
  obtain ⟨a0, b0, o0, cap0, c0, -, -⟩ := hA 0 r0 hr0
  rw [h.top r0 hr0, Nat.add_zero] at c0
  have g1 : ((m : Int) == 0) = false := by simp; omega
  have g2 : decide ((64 : Int) < (m : Int)) = false := by simp; omega
  have g3 : (0 : Int) < (m : Int) := by omega
  clear h hA em hr0
  go_enter Try.func23, Try.ntmps23
  go_wp2
  clear c0
  go_loopw [5, 6, 7, 8, 9] (fun i s k x lo wr => ∃ j : Nat, j ≤ m ∧ i = .int .i64 j ∧ w = wr) (fun i _ _ _ _ _ => m - (intOf i).toNat)
  case atStart => exact ⟨0, Nat.zero_le _, rfl, rfl⟩
  case round =>
    obtain ⟨j, hj, rfl, rfl⟩ := hrel
    by_cases c : j < m
    · have c1 : (j : Int) < (m : Int) := by omega
      obtain ⟨r, hr⟩ : ∃ r, sh[j]? = some r := ⟨sh[j]'(by rw [EM.out]; exact c), List.getElem?_eq_getElem _⟩
      obtain ⟨a, b, o, capr, d0, ha, hN⟩ := HA.out j r hr
      have HEL := Lib.hid (fun x hx => H.out.el j r x hr hx)
      obtain ⟨q, eq⟩ : ∃ q, r.length = q := ⟨_, rfl⟩
      have EQ := Lib.hid eq
      have HN := Lib.hid hN
      have HAA := Lib.hid ha
      have hq4 : q ≤ 4294967296 := by have := H.out.big r (List.mem_of_getElem? hr); omega
      rw [eq] at d0
      have HR := Lib.hid hr
      clear ha hN eq hr
      go_wp2
      go_loopw [6, 7, 8, 9] (fun s k x lo wr => ∃ (p : Nat) (t : Int), p ≤ q ∧ k = .int .i64 p ∧ s = .int .i64 t ∧ (0 ≤ t ∧ t ≤ 8 * p) ∧ Hid (t + isum (r.drop p) = isum r) ∧ w = wr) (fun _ k _ _ _ => q - (intOf k).toNat)
      case atStart => exact ⟨0, 0, Nat.zero_le _, rfl, rfl, by omega, by show 0 + isum (r.drop 0) = isum r; rw [List.drop_zero, Int.zero_add], rfl⟩
      case round =>
        obtain ⟨p, t, hp, rfl, rfl, ht, HT, rfl⟩ := hrel
        by_cases d : p < q
        · have d1 : (p : Int) < (q : Int) := by omega
          obtain rfl : a = some ⟨b, o, none⟩ := by rcases HAA.out with h | h; (have := EQ.out; omega); exact h
          have hy : r[p]? = some (r[p]'(by rw [EQ.out]; exact d)) := List.getElem?_eq_getElem _
          have hdr : r.drop p = (r[p]'(by rw [EQ.out]; exact d)) :: r.drop (p + 1) := List.drop_eq_getElem_cons _
          generalize r[p]'(by rw [EQ.out]; exact d) = y at *
          have e0 := HN.out.c p y hy
          have hy8 := HEL.out y (List.mem_of_getElem? hy)
          have hs := HT.out
          rw [hdr] at hs
          have HT2 : Hid ((t + y) + isum (r.drop (p + 1)) = isum r) := Lib.hid (by have : isum (y :: r.drop (p + 1)) = y + isum (r.drop (p + 1)) := rfl; omega)
          clear hs hy hdr HT
          have g8 : decide ((8 : Int) < y) = false := by simp; omega
          by_cases z : j = 0
          · subst z
            rw [Nat.add_zero] at d0
            by_cases z2 : m = 1
            · subst z2
              have g7 : decide (y < 0) = false := by have := hy8.1; rw [EM.out] at this; simp [shLow] at this ⊢; omega
              have hy0 : 0 ≤ y := by simpa using g7
              have hy9 := hy8.2
              clear hy8
              go_wp2
              go_roundw
              case rel => exact ⟨p + 1, t + y, by omega, by go_num, by go_num, by omega, HT2, by trivial⟩
              case measure => simp [intOf]; omega
            · have g6 : ((m : Int) == 1) = false := by simp; omega
              have g7 : decide (y < 2) = false := by have := hy8.1; rw [EM.out] at this; simp [shLow, z2] at this ⊢; omega
              have hy0 : 0 ≤ y := by have : 2 ≤ y := by simpa using g7
                                     omega
              have hy9 := hy8.2
              clear hy8
              go_wp2
              go_roundw
              case rel => exact ⟨p + 1, t + y, by omega, by go_num, by go_num, by omega, HT2, by trivial⟩
              case measure => simp [intOf]; omega
          · have g5 : ((j : Int) == 0) = false := by simp; omega
            have g7 : decide (y < 4) = false := by have := hy8.1; rw [EM.out] at this; simp [shLow, z] at this ⊢; omega
            have hy0 : 0 ≤ y := by have : 4 ≤ y := by simpa using g7
                                   omega
            have hy9 := hy8.2
            clear hy8
            go_wp2
            go_roundw
            case rel => exact ⟨p + 1, t + y, by omega, by go_num, by go_num, by omega, HT2, by trivial⟩
            case measure => simp [intOf]; omega
        · obtain rfl : p = q := by omega
          have hs := HT.out
          rw [List.drop_eq_nil_of_le (by rw [EQ.out]; exact Nat.le_refl _)] at hs
          have hs2 : t = isum r := by have : isum ([] : List Int) = 0 := rfl; omega
          clear hs HT
          by_cases z : j + 1 = m
          · have hl := H.out.last j r HR.out (by rw [EM.out]; exact z)
            obtain rfl : t = n := by omega
            have g5 : decide ((j : Int) + 1 < (m : Int)) = false := by simp; omega
            have g6 : ((j : Int) + 1 == (m : Int)) = true := by simp; omega
            have g7 : (t != t) = false := by simp
            clear hl hs2
            go_wp2
            go_roundw
            case rel => exact ⟨j + 1, by omega, by go_num, by trivial⟩
            case measure => simp [intOf]; omega
          · obtain ⟨r', hr'⟩ : ∃ r', sh[j + 1]? = some r' := ⟨sh[j + 1]'(by rw [EM.out]; omega), List.getElem?_eq_getElem _⟩
            have hl := H.out.mid j r r' HR.out hr'
            obtain ⟨a', b', o', capr', d0', -, -⟩ := HA.out (j + 1) r' hr'
            obtain ⟨q', eq'⟩ : ∃ q', r'.length = q' := ⟨_, rfl⟩
            rw [eq'] at d0' hl
            obtain rfl : t = (q' : Int) := by omega
            have g5 : (j : Int) + 1 < (m : Int) := by omega
            have g6 : ((j : Int) + 1 == (m : Int)) = false := by simp; omega
            have g7 : ((q' : Int) != (q' : Int)) = false := by simp
            clear hl hs2 hr' eq'
            go_wp2
            go_roundw
            case rel => exact ⟨j + 1, by omega, by go_num, by trivial⟩
            case measure => simp [intOf]; omega
    · obtain rfl : j = m := by omega
      go_wp2
      go_ret
      exact ⟨rfl, rfl⟩

end Go.Proofs.Ytncganfjbalkgaa
