/-
  Keys: the bytes of values as the document has them; contracts over the translation: a number's eight bytes, a real's number in the order.
  Conditions: the numbers are of 64 bits.
-/
import Derived.Test.YtpknoclnmhomiaaByt1
import Derived.Test.YtpknoclnmhomiaaVal10
import Derived.Test.YtpknoclnmhomiaaPlain1
namespace Go.Proofs.Ytpknoclnmhomiaa
open Go.RowKit Go.Joins Go.ChangeShapes Go.WideShapes
set_option linter.unusedVariables false

/-- a number's eight bytes, the greatest first -/
def be8 (u : Nat) : List Nat := [u / 72057594037927936 % 256, u / 281474976710656 % 256, u / 1099511627776 % 256, u / 4294967296 % 256, u / 16777216 % 256, u / 65536 % 256, u / 256 % 256, u % 256]
/-- a real's number in the order -/
def risV (n : Int) : Int := if n = -9223372036854775808 then 9223372036854775808 else if n < 0 then -1 - n else n + 9223372036854775808

theorem rising_any (n : Int) (h : InI n) (w : World) :
    Calls Try.prog 26 #[.int .i64 n] w fun e w' => e = .returned (.int .u64 (risV n)) ∧ w = w' := by
  obtain ⟨h1, h2⟩ := h
  unfold risV
  by_cases a : n = -9223372036854775808
  · subst a
    rw [if_pos rfl]
    clear h1 h2
    go_enter Try.func26, Try.ntmps26
    go_wp2
    go_ret
    exact ⟨rfl, rfl⟩
  · rw [if_neg a]
    have a' : (n == -9223372036854775808) = false := by simpa using a
    by_cases b : n < 0
    · rw [if_pos b]
      have c1 : IntKind.i64.wrap (-1 - n) = -1 - n := by rw [IntKind.wrap_i64]; omega
      have c2 : IntKind.u64.wrap (-1 - n) = -1 - n := by rw [IntKind.wrap_u64]; omega
      clear a
      go_enter Try.func26, Try.ntmps26
      go_wp2
      go_ret
      exact ⟨ret_i (by first | rfl | (simp [*]; done) | (simp; omega)), rfl⟩
    · rw [if_neg b]
      have b' : decide (n < 0) = false := by simpa using b
      have c1 : IntKind.u64.wrap n = n := by rw [IntKind.wrap_u64]; omega
      have c2 : IntKind.u64.wrap (n + 9223372036854775808) = n + 9223372036854775808 := by rw [IntKind.wrap_u64]; omega
      clear a
      go_enter Try.func26, Try.ntmps26
      go_wp2
      go_ret
      exact ⟨ret_i (by first | rfl | (simp [*]; done) | (simp; omega)), rfl⟩

set_option maxHeartbeats 2000000 in
theorem eight_any (u : Nat) (hu : u < 18446744073709551616) (w : World) :
    Calls Try.prog 25 #[.int .u64 u] w fun e w' => ∃ v, e = .returned v ∧ OwB w' w.heap.size v (be8 u) ∧ Below w.heap.size w w' := by
  generalize hP : (fun (e : Ending) (w' : World) => ∃ v, e = .returned v ∧ OwB w' w.heap.size v (be8 u) ∧ Below w.heap.size w w') = P
  have hpost : ∀ (v : Value) (w' : World), En w w' w.heap.size v (be8 u) → P (.returned v) w' := by
    intro v w' h; rw [← hP]; exact ⟨v, rfl, h.own, h.bel⟩
  have HP := Lib.hid hpost
  clear hpost hP
  go_enter Try.func25, Try.ntmps25
  go_wp2
  go_loopw [3, 4] (fun v i wr => ∃ j : Nat, j ≤ 8 ∧ i = .int .i64 (56 - 8 * (j : Int)) ∧ En w wr w.heap.size v ((be8 u).take j)) (fun _ i _ => (intOf i + 8).toNat)
  case atStart =>
    exact ⟨0, by omega, rfl, ⟨World.ownsRow_made w #[] 0 (Nat.le_refl _) (by decide) rfl, by simp⟩, (Below.refl _ _).alloc (Nat.le_refl _) _, by simp⟩
  case round =>
    obtain ⟨j, hj, rfl, hen⟩ := hrel
    have hc : j = 0 ∨ j = 1 ∨ j = 2 ∨ j = 3 ∨ j = 4 ∨ j = 5 ∨ j = 6 ∨ j = 7 ∨ j = 8 := by omega
    have HE := Lib.hid hen
    clear hen hj
    rcases hc with rfl | rfl | rfl | rfl | rfl | rfl | rfl | rfl | rfl
    · go_wp2_with (at_builtin; refine wp_push rfl _ _ rfl w.heap.size _ _ rfl (HE.out.own.alloc _) ⟨wr.heap.size, 0, none⟩ 1 1 [u / 72057594037927936 % 256] rfl rfl (news1' wr _ _ (by first | omega | (simp only [IntKind.wrap_u8]; omega))) (by simp [be8]) (HE.out.alloc _).sz ?_; intro v' w1 hown1 hgrow)
      have HE2 : En w w1 w.heap.size v' ((be8 u).take 1) := (HE.out.alloc _).push hown1 hgrow
      go_roundw
      case rel => exact ⟨1, by omega, by first | rfl | go_num, HE2⟩
      case measure => simp [intOf]
    · go_wp2_with (at_builtin; refine wp_push rfl _ _ rfl w.heap.size _ _ rfl (HE.out.own.alloc _) ⟨wr.heap.size, 0, none⟩ 1 1 [u / 281474976710656 % 256] rfl rfl (news1' wr _ _ (by first | omega | (simp only [IntKind.wrap_u8]; omega))) (by simp [be8]) (HE.out.alloc _).sz ?_; intro v' w1 hown1 hgrow)
      have HE2 : En w w1 w.heap.size v' ((be8 u).take 2) := (HE.out.alloc _).push hown1 hgrow
      go_roundw
      case rel => exact ⟨2, by omega, by first | rfl | go_num, HE2⟩
      case measure => simp [intOf]
    · go_wp2_with (at_builtin; refine wp_push rfl _ _ rfl w.heap.size _ _ rfl (HE.out.own.alloc _) ⟨wr.heap.size, 0, none⟩ 1 1 [u / 1099511627776 % 256] rfl rfl (news1' wr _ _ (by first | omega | (simp only [IntKind.wrap_u8]; omega))) (by simp [be8]) (HE.out.alloc _).sz ?_; intro v' w1 hown1 hgrow)
      have HE2 : En w w1 w.heap.size v' ((be8 u).take 3) := (HE.out.alloc _).push hown1 hgrow
      go_roundw
      case rel => exact ⟨3, by omega, by first | rfl | go_num, HE2⟩
      case measure => simp [intOf]
    · go_wp2_with (at_builtin; refine wp_push rfl _ _ rfl w.heap.size _ _ rfl (HE.out.own.alloc _) ⟨wr.heap.size, 0, none⟩ 1 1 [u / 4294967296 % 256] rfl rfl (news1' wr _ _ (by first | omega | (simp only [IntKind.wrap_u8]; omega))) (by simp [be8]) (HE.out.alloc _).sz ?_; intro v' w1 hown1 hgrow)
      have HE2 : En w w1 w.heap.size v' ((be8 u).take 4) := (HE.out.alloc _).push hown1 hgrow
      go_roundw
      case rel => exact ⟨4, by omega, by first | rfl | go_num, HE2⟩
      case measure => simp [intOf]
    · go_wp2_with (at_builtin; refine wp_push rfl _ _ rfl w.heap.size _ _ rfl (HE.out.own.alloc _) ⟨wr.heap.size, 0, none⟩ 1 1 [u / 16777216 % 256] rfl rfl (news1' wr _ _ (by first | omega | (simp only [IntKind.wrap_u8]; omega))) (by simp [be8]) (HE.out.alloc _).sz ?_; intro v' w1 hown1 hgrow)
      have HE2 : En w w1 w.heap.size v' ((be8 u).take 5) := (HE.out.alloc _).push hown1 hgrow
      go_roundw
      case rel => exact ⟨5, by omega, by first | rfl | go_num, HE2⟩
      case measure => simp [intOf]
    · go_wp2_with (at_builtin; refine wp_push rfl _ _ rfl w.heap.size _ _ rfl (HE.out.own.alloc _) ⟨wr.heap.size, 0, none⟩ 1 1 [u / 65536 % 256] rfl rfl (news1' wr _ _ (by first | omega | (simp only [IntKind.wrap_u8]; omega))) (by simp [be8]) (HE.out.alloc _).sz ?_; intro v' w1 hown1 hgrow)
      have HE2 : En w w1 w.heap.size v' ((be8 u).take 6) := (HE.out.alloc _).push hown1 hgrow
      go_roundw
      case rel => exact ⟨6, by omega, by first | rfl | go_num, HE2⟩
      case measure => simp [intOf]
    · go_wp2_with (at_builtin; refine wp_push rfl _ _ rfl w.heap.size _ _ rfl (HE.out.own.alloc _) ⟨wr.heap.size, 0, none⟩ 1 1 [u / 256 % 256] rfl rfl (news1' wr _ _ (by first | omega | (simp only [IntKind.wrap_u8]; omega))) (by simp [be8]) (HE.out.alloc _).sz ?_; intro v' w1 hown1 hgrow)
      have HE2 : En w w1 w.heap.size v' ((be8 u).take 7) := (HE.out.alloc _).push hown1 hgrow
      go_roundw
      case rel => exact ⟨7, by omega, by first | rfl | go_num, HE2⟩
      case measure => simp [intOf]
    · go_wp2_with (at_builtin; refine wp_push rfl _ _ rfl w.heap.size _ _ rfl (HE.out.own.alloc _) ⟨wr.heap.size, 0, none⟩ 1 1 [u % 256] rfl rfl (news1' wr _ _ (by first | omega | (simp only [IntKind.wrap_u8]; omega))) (by simp [be8]) (HE.out.alloc _).sz ?_; intro v' w1 hown1 hgrow)
      have HE2 : En w w1 w.heap.size v' ((be8 u).take 8) := (HE.out.alloc _).push hown1 hgrow
      go_roundw
      case rel => exact ⟨8, by omega, by first | rfl | go_num, HE2⟩
      case measure => simp [intOf]
    · go_wp2
      exact HP.out _ _ HE.out

end Go.Proofs.Ytpknoclnmhomiaa
