/-
  Texts of mine put together, in build order.
  Conditions: as each declaration says.
-/
import Derived.Deep.RegionLaw
import Derived.Deep.Slices
import Derived.Deep.Fields
import Derived.Laws.AppendOwnNone
import Derived.Laws.BytesString
import Derived.Lib.Overlaps
import Derived.StillTailTactics
import Derived.Test.YtmmchhlfbhbigaaDoorMg3
namespace Go.Proofs.YtmmchhlfbhbigaaDoor
set_option maxRecDepth 100000
open Go.RowKit Go.Joins Go.ChangeShapes Go.WideShapes
set_option linter.unusedVariables false

/-- append onto a slice of bytes of the call's own, nil perhaps -/
theorem wp_pushN {ops : Array Oper} {rest : List Oper} {o : Oper} {a : Act} {w : World} {Q : Exit → Act → World → Prop} (hgd : o.guard = none) (s x : Operand)
    (ho : o.op = .call { callee := .builtin .append, args := #[s, x], argTypes := #[30, 30] })
    (base : Nat) (v : Value) (l : List Nat) (hs : a.eval s = v) (hown : w.ownsRow base 5 1 v l.length (bcells l)) (ad : Addr) (m c : Nat) (r : List Nat) (hx : a.eval x = .slice (some ad) m c) (hm : r.length = m) (hm0 : m ≠ 0)
    (hnews : ∀ j u, (bcells r)[j]? = some u → w.cell? (ad.add j) = some u) (hsz : l.length + m ≤ 70368744177664) (hbase : base ≤ w.heap.size)
    (h : ∀ v' w', OwB w' base v' (l ++ r) → w.grownBy w' v.ownBlock → wpList Tryd.prog ops Q rest (a.put o.dst v') w') : wpList Tryd.prog ops Q (o :: rest) a w := by
  obtain ⟨i0, hi, hz0, hz1, hz2⟩ := info_parts infoB
  refine wpList_append_own w hgd s x _ ho base 5 i0 _ 1 1 Tryd.underlying30 hi hz0 hz1 hz2 rfl (by decide) v l.length (bcells l) hs hown ad m c (bcells r) hx (by rw [bcells_length, hm, Nat.mul_one]) hnews (bcells_one r) (by unfold maxLen; omega) (by omega) hbase ?_
  intro v' w' h1 h2 h3
  refine h v' w' ⟨?_, fun e => hm0 (h3.1 e).2⟩ h2
  rw [bcells_app, List.length_append, hm]
  exact h1

/-- the state of a loop that writes bytes, as En; nil perhaps -/
structure Eo (W w : World) (B : Nat) (v : Value) (l : List Nat) : Prop where
  own : w.ownsRow B 5 1 v l.length (bcells l)
  bel : Below B W w
  sz : B ≤ w.heap.size
theorem En.eo {W w : World} {B : Nat} {v : Value} {l : List Nat} (h : En W w B v l) : Eo W w B v l := ⟨h.own.1, h.bel, h.sz⟩
theorem Eo.alloc {W w : World} {B : Nat} {v : Value} {l : List Nat} (h : Eo W w B v l) (o : Obj) : Eo W (w.alloc o) B v l := ⟨h.own.alloc o, h.bel.alloc h.sz o, by simp; exact Nat.le_succ_of_le h.sz⟩
theorem Eo.step {W w w' : World} {B : Nat} {v : Value} {l : List Nat} (h : Eo W w B v l) (hb : Below w.heap.size w w') : Eo W w' B v l := ⟨rowBelow h.own hb, h.bel.trans (hb.mono h.sz), Nat.le_trans h.sz hb.size⟩
theorem Eo.drew {W w : World} {B : Nat} {v : Value} {l : List Nat} (h : Eo W w B v l) : Eo W w.drew B v l := h.step (Below.refl _ _).drew
theorem Eo.push {W w w' : World} {B : Nat} {v v' : Value} {l l' : List Nat} (h : Eo W w B v l) (ho : OwB w' B v' l') (hg : w.grownBy w' v.ownBlock) : En W w' B v' l' :=
  ⟨ho, h.bel.grown hg h.sz (fun k hk => (h.own.lt k hk).1), Nat.le_trans h.sz hg.size⟩
theorem Eo.nil (w : World) : Eo w w w.heap.size (.slice none 0 0) [] := ⟨World.ownsRow_nil w _ _ 1, Below.refl _ _, Nat.le_refl _⟩
theorem Eo.outB {W w : World} {B : Nat} {v : Value} {l : List Nat} (h : Eo W w B v l) : OutB w B v l := by
  by_cases c : v = .slice none 0 0
  · left
    refine ⟨c, ?_⟩
    subst c
    rcases h.own.2 with ⟨_, e⟩ | ⟨g, cap, cur, e, _⟩
    · exact List.length_eq_zero_iff.1 e
    · cases e
  · exact .inr ⟨h.own, c⟩
theorem BoxV.grownO {w w' : World} {base g : Nat} {k n : Int} {s : ByteArray} {v : Value} {l : List Nat} (h : BoxV w g k n s) (ho : w.ownsRow base 5 1 v l.length (bcells l)) (hg : w.grownBy w' v.ownBlock) : BoxV w' g k n s :=
  (hg.block g h.lt (fun e => own_ne ho h ty_ne e.symm)).trans h

set_option maxHeartbeats 2000000 in
theorem appnum_any (W : World) (B : Nat) (v : Value) (l : List Nat) (hl : l.length ≤ 35184372088832) (u : Nat) (hu : u < 18446744073709551616) (w : World) (h : Eo W w B v l) :
    Calls Tryd.prog 125 #[v, .int .u64 u] w fun e w' => ∃ v', e = .returned v' ∧ En W w' B v' (l ++ be8 u) := by
  generalize hP : (fun (e : Ending) (w' : World) => ∃ v', e = .returned v' ∧ En W w' B v' (l ++ be8 u)) = P
  have hpost : ∀ (v' : Value) (w' : World), Eo W w' B v' (l ++ be8 u) → v' ≠ .slice none 0 0 → P (.returned v') w' := by
    intro v' w' h h2; rw [← hP]; exact ⟨v', rfl, ⟨h.own, h2⟩, h.bel, h.sz⟩
  have HP := Lib.hid hpost
  have HE0 := Lib.hid h
  have HU := Lib.hid hu
  clear hpost hP h hu
  go_enter Tryd.func125, Tryd.ntmps125
  go_wp2
  go_loopw [0, 5] (fun x i wr => ∃ j : Nat, j ≤ 8 ∧ i = .int .i64 (56 - 8 * (j : Int)) ∧ Eo W wr B x (l ++ (be8 u).take j) ∧ Hid (j ≠ 0 → x ≠ .slice none 0 0)) (fun _ i _ => (intOf i + 8).toNat)
  case atStart => exact ⟨0, by omega, rfl, by simpa using HE0.out, fun h => absurd rfl h⟩
  case round =>
    obtain ⟨j, hj, rfl, hen, HNN⟩ := hrel
    have hc : j = 0 ∨ j = 1 ∨ j = 2 ∨ j = 3 ∨ j = 4 ∨ j = 5 ∨ j = 6 ∨ j = 7 ∨ j = 8 := by omega
    have HE := Lib.hid hen
    clear hen hj
    rcases hc with rfl | rfl | rfl | rfl | rfl | rfl | rfl | rfl | rfl
    · have hb : (u : Int) / 2 ^ 56 = ((u / 2 ^ 56 : Nat) : Int) := by omega
      have hz : IntKind.u8.wrap ((u : Int) / 72057594037927936) = ((u / 72057594037927936 % 256 : Nat) : Int) := by rw [IntKind.wrap_u8]; omega
      have hz2 : IntKind.u8.wrap ((u : Int) / 2 ^ 56) = ((u / 72057594037927936 % 256 : Nat) : Int) := by rw [IntKind.wrap_u8]; omega
      have hz3 : IntKind.u8.wrap ((u / 72057594037927936 : Nat) : Int) = ((u / 72057594037927936 % 256 : Nat) : Int) := by rw [IntKind.wrap_u8]; omega
      go_wp2_with (at_builtin; refine wp_pushN rfl _ _ rfl B _ _ rfl (HE.out.own.alloc _) ⟨wr.heap.size, 0, none⟩ 1 1 [u / 72057594037927936 % 256] rfl rfl (by decide) (news1' wr _ _ (by first | assumption | (simp [*]; done) | omega | (simp only [IntKind.wrap_u8]; omega))) (by simp [be8]; omega) (HE.out.alloc _).sz ?_; intro v' w1 hown1 hgrow)
      have HE2 : En W w1 B v' (l ++ (be8 u).take 1) := by
        have := (HE.out.alloc _).push hown1 hgrow
        rw [List.append_assoc] at this
        exact this
      go_roundw
      case rel => exact ⟨1, by omega, by first | rfl | go_num, HE2.eo, fun _ => HE2.own.2⟩
      case measure => simp [intOf]
    · have hb : (u : Int) / 2 ^ 48 = ((u / 2 ^ 48 : Nat) : Int) := by omega
      have hz : IntKind.u8.wrap ((u : Int) / 281474976710656) = ((u / 281474976710656 % 256 : Nat) : Int) := by rw [IntKind.wrap_u8]; omega
      have hz2 : IntKind.u8.wrap ((u : Int) / 2 ^ 48) = ((u / 281474976710656 % 256 : Nat) : Int) := by rw [IntKind.wrap_u8]; omega
      have hz3 : IntKind.u8.wrap ((u / 281474976710656 : Nat) : Int) = ((u / 281474976710656 % 256 : Nat) : Int) := by rw [IntKind.wrap_u8]; omega
      go_wp2_with (at_builtin; refine wp_pushN rfl _ _ rfl B _ _ rfl (HE.out.own.alloc _) ⟨wr.heap.size, 0, none⟩ 1 1 [u / 281474976710656 % 256] rfl rfl (by decide) (news1' wr _ _ (by first | assumption | (simp [*]; done) | omega | (simp only [IntKind.wrap_u8]; omega))) (by simp [be8]; omega) (HE.out.alloc _).sz ?_; intro v' w1 hown1 hgrow)
      have HE2 : En W w1 B v' (l ++ (be8 u).take 2) := by
        have := (HE.out.alloc _).push hown1 hgrow
        rw [List.append_assoc] at this
        exact this
      go_roundw
      case rel => exact ⟨2, by omega, by first | rfl | go_num, HE2.eo, fun _ => HE2.own.2⟩
      case measure => simp [intOf]
    · have hb : (u : Int) / 2 ^ 40 = ((u / 2 ^ 40 : Nat) : Int) := by omega
      have hz : IntKind.u8.wrap ((u : Int) / 1099511627776) = ((u / 1099511627776 % 256 : Nat) : Int) := by rw [IntKind.wrap_u8]; omega
      have hz2 : IntKind.u8.wrap ((u : Int) / 2 ^ 40) = ((u / 1099511627776 % 256 : Nat) : Int) := by rw [IntKind.wrap_u8]; omega
      have hz3 : IntKind.u8.wrap ((u / 1099511627776 : Nat) : Int) = ((u / 1099511627776 % 256 : Nat) : Int) := by rw [IntKind.wrap_u8]; omega
      go_wp2_with (at_builtin; refine wp_pushN rfl _ _ rfl B _ _ rfl (HE.out.own.alloc _) ⟨wr.heap.size, 0, none⟩ 1 1 [u / 1099511627776 % 256] rfl rfl (by decide) (news1' wr _ _ (by first | assumption | (simp [*]; done) | omega | (simp only [IntKind.wrap_u8]; omega))) (by simp [be8]; omega) (HE.out.alloc _).sz ?_; intro v' w1 hown1 hgrow)
      have HE2 : En W w1 B v' (l ++ (be8 u).take 3) := by
        have := (HE.out.alloc _).push hown1 hgrow
        rw [List.append_assoc] at this
        exact this
      go_roundw
      case rel => exact ⟨3, by omega, by first | rfl | go_num, HE2.eo, fun _ => HE2.own.2⟩
      case measure => simp [intOf]
    · have hb : (u : Int) / 2 ^ 32 = ((u / 2 ^ 32 : Nat) : Int) := by omega
      have hz : IntKind.u8.wrap ((u : Int) / 4294967296) = ((u / 4294967296 % 256 : Nat) : Int) := by rw [IntKind.wrap_u8]; omega
      have hz2 : IntKind.u8.wrap ((u : Int) / 2 ^ 32) = ((u / 4294967296 % 256 : Nat) : Int) := by rw [IntKind.wrap_u8]; omega
      have hz3 : IntKind.u8.wrap ((u / 4294967296 : Nat) : Int) = ((u / 4294967296 % 256 : Nat) : Int) := by rw [IntKind.wrap_u8]; omega
      go_wp2_with (at_builtin; refine wp_pushN rfl _ _ rfl B _ _ rfl (HE.out.own.alloc _) ⟨wr.heap.size, 0, none⟩ 1 1 [u / 4294967296 % 256] rfl rfl (by decide) (news1' wr _ _ (by first | assumption | (simp [*]; done) | omega | (simp only [IntKind.wrap_u8]; omega))) (by simp [be8]; omega) (HE.out.alloc _).sz ?_; intro v' w1 hown1 hgrow)
      have HE2 : En W w1 B v' (l ++ (be8 u).take 4) := by
        have := (HE.out.alloc _).push hown1 hgrow
        rw [List.append_assoc] at this
        exact this
      go_roundw
      case rel => exact ⟨4, by omega, by first | rfl | go_num, HE2.eo, fun _ => HE2.own.2⟩
      case measure => simp [intOf]
    · have hb : (u : Int) / 2 ^ 24 = ((u / 2 ^ 24 : Nat) : Int) := by omega
      have hz : IntKind.u8.wrap ((u : Int) / 16777216) = ((u / 16777216 % 256 : Nat) : Int) := by rw [IntKind.wrap_u8]; omega
      have hz2 : IntKind.u8.wrap ((u : Int) / 2 ^ 24) = ((u / 16777216 % 256 : Nat) : Int) := by rw [IntKind.wrap_u8]; omega
      have hz3 : IntKind.u8.wrap ((u / 16777216 : Nat) : Int) = ((u / 16777216 % 256 : Nat) : Int) := by rw [IntKind.wrap_u8]; omega
      go_wp2_with (at_builtin; refine wp_pushN rfl _ _ rfl B _ _ rfl (HE.out.own.alloc _) ⟨wr.heap.size, 0, none⟩ 1 1 [u / 16777216 % 256] rfl rfl (by decide) (news1' wr _ _ (by first | assumption | (simp [*]; done) | omega | (simp only [IntKind.wrap_u8]; omega))) (by simp [be8]; omega) (HE.out.alloc _).sz ?_; intro v' w1 hown1 hgrow)
      have HE2 : En W w1 B v' (l ++ (be8 u).take 5) := by
        have := (HE.out.alloc _).push hown1 hgrow
        rw [List.append_assoc] at this
        exact this
      go_roundw
      case rel => exact ⟨5, by omega, by first | rfl | go_num, HE2.eo, fun _ => HE2.own.2⟩
      case measure => simp [intOf]
    · have hb : (u : Int) / 2 ^ 16 = ((u / 2 ^ 16 : Nat) : Int) := by omega
      have hz : IntKind.u8.wrap ((u : Int) / 65536) = ((u / 65536 % 256 : Nat) : Int) := by rw [IntKind.wrap_u8]; omega
      have hz2 : IntKind.u8.wrap ((u : Int) / 2 ^ 16) = ((u / 65536 % 256 : Nat) : Int) := by rw [IntKind.wrap_u8]; omega
      have hz3 : IntKind.u8.wrap ((u / 65536 : Nat) : Int) = ((u / 65536 % 256 : Nat) : Int) := by rw [IntKind.wrap_u8]; omega
      go_wp2_with (at_builtin; refine wp_pushN rfl _ _ rfl B _ _ rfl (HE.out.own.alloc _) ⟨wr.heap.size, 0, none⟩ 1 1 [u / 65536 % 256] rfl rfl (by decide) (news1' wr _ _ (by first | assumption | (simp [*]; done) | omega | (simp only [IntKind.wrap_u8]; omega))) (by simp [be8]; omega) (HE.out.alloc _).sz ?_; intro v' w1 hown1 hgrow)
      have HE2 : En W w1 B v' (l ++ (be8 u).take 6) := by
        have := (HE.out.alloc _).push hown1 hgrow
        rw [List.append_assoc] at this
        exact this
      go_roundw
      case rel => exact ⟨6, by omega, by first | rfl | go_num, HE2.eo, fun _ => HE2.own.2⟩
      case measure => simp [intOf]
    · have hb : (u : Int) / 2 ^ 8 = ((u / 2 ^ 8 : Nat) : Int) := by omega
      have hz : IntKind.u8.wrap ((u : Int) / 256) = ((u / 256 % 256 : Nat) : Int) := by rw [IntKind.wrap_u8]; omega
      have hz2 : IntKind.u8.wrap ((u : Int) / 2 ^ 8) = ((u / 256 % 256 : Nat) : Int) := by rw [IntKind.wrap_u8]; omega
      have hz3 : IntKind.u8.wrap ((u / 256 : Nat) : Int) = ((u / 256 % 256 : Nat) : Int) := by rw [IntKind.wrap_u8]; omega
      go_wp2_with (at_builtin; refine wp_pushN rfl _ _ rfl B _ _ rfl (HE.out.own.alloc _) ⟨wr.heap.size, 0, none⟩ 1 1 [u / 256 % 256] rfl rfl (by decide) (news1' wr _ _ (by first | assumption | (simp [*]; done) | omega | (simp only [IntKind.wrap_u8]; omega))) (by simp [be8]; omega) (HE.out.alloc _).sz ?_; intro v' w1 hown1 hgrow)
      have HE2 : En W w1 B v' (l ++ (be8 u).take 7) := by
        have := (HE.out.alloc _).push hown1 hgrow
        rw [List.append_assoc] at this
        exact this
      go_roundw
      case rel => exact ⟨7, by omega, by first | rfl | go_num, HE2.eo, fun _ => HE2.own.2⟩
      case measure => simp [intOf]
    · have hb : (u : Int) / 2 ^ 0 = ((u / 2 ^ 0 : Nat) : Int) := by omega
      have hz : IntKind.u8.wrap ((u : Int) / 1) = ((u % 256 : Nat) : Int) := by rw [IntKind.wrap_u8]; omega
      have hz2 : IntKind.u8.wrap ((u : Int) / 2 ^ 0) = ((u % 256 : Nat) : Int) := by rw [IntKind.wrap_u8]; omega
      have hz3 : IntKind.u8.wrap ((u / 1 : Nat) : Int) = ((u % 256 : Nat) : Int) := by rw [IntKind.wrap_u8]; omega
      go_wp2_with (at_builtin; refine wp_pushN rfl _ _ rfl B _ _ rfl (HE.out.own.alloc _) ⟨wr.heap.size, 0, none⟩ 1 1 [u % 256] rfl rfl (by decide) (news1' wr _ _ (by first | assumption | (simp [*]; done) | omega | (simp only [IntKind.wrap_u8]; omega))) (by simp [be8]; omega) (HE.out.alloc _).sz ?_; intro v' w1 hown1 hgrow)
      have HE2 : En W w1 B v' (l ++ (be8 u).take 8) := by
        have := (HE.out.alloc _).push hown1 hgrow
        rw [List.append_assoc] at this
        exact this
      go_roundw
      case rel => exact ⟨8, by omega, by first | rfl | go_num, HE2.eo, fun _ => HE2.own.2⟩
      case measure => simp [intOf]
    · go_wp2
      exact HP.out _ _ (by simpa [be8] using HE.out) (HNN.out (by decide))

set_option maxHeartbeats 4000000 in
theorem apptext_any (W : World) (B : Nat) (v : Value) (l : List Nat) (hl : l.length ≤ 35184372088832) (s : ByteArray) (hs : s.size ≤ 1048576) (w : World) (h : Eo W w B v l) :
    Calls Tryd.prog 128 #[v, .string s] w fun e w' => ∃ v', e = .returned v' ∧ En W w' B v' (l ++ (esc (sl s) ++ [0, 1])) := by
  generalize hP : (fun (e : Ending) (w' : World) => ∃ v', e = .returned v' ∧ En W w' B v' (l ++ (esc (sl s) ++ [0, 1]))) = P
  have hpost : ∀ (v' : Value) (w' : World), En W w' B v' (l ++ esc (sl s) ++ [0, 1]) → P (.returned v') w' := by
    intro v' w' h; rw [← hP]; exact ⟨v', rfl, by rw [← List.append_assoc]; exact h⟩
  have HP := Lib.hid hpost
  have HE0 := Lib.hid h
  have HL := Lib.hid (show ∀ q, (l ++ esc ((sl s).take q)).length ≤ 35184374185984 by
    intro q
    have h1 := esc_le ((sl s).take q)
    rw [List.length_take, sl_length] at h1
    rw [List.length_append]
    omega)
  have hlen : (sl s).length = s.size := sl_length s
  have hs64 : (s.size : Int) ≤ 1048576 := by omega
  clear hpost hP h hl
  go_enter Tryd.func128, Tryd.ntmps128
  go_wp2
  go_loopw [0, 8] (fun x i wr => ∃ q : Nat, q ≤ s.size ∧ i = .int .i64 q ∧ Eo W wr B x (l ++ esc ((sl s).take q))) (fun _ i _ => s.size - (intOf i).toNat)
  case atStart => exact ⟨0, by omega, rfl, by simpa [esc] using HE0.out⟩
  case round =>
    obtain ⟨q, hq, rfl, hen⟩ := hrel
    have HEQ := Lib.hid hen
    clear hen
    by_cases hqs : q < s.size
    · have hq1 : (q : Int) < (s.size : Int) := by omega
      have HT := Lib.hid (esc_take s q hqs)
      have HLE := Lib.hid (HL.out q)
      have hlt8 : (s[q]'hqs).toNat < 256 := (s[q]'hqs).toNat_lt
      by_cases hz : (s[q]'hqs).toNat = 0
      · have hz2 : (s[q]'hqs) = 0 := UInt8.toNat_inj.1 hz
        have HZ := Lib.hid hz
        clear hz hlt8
        go_wp2_with (first | (at_builtin; refine wp_pushN rfl _ _ rfl B _ _ rfl (HE5.out.own.1.alloc _) ⟨w5.heap.size, 0, none⟩ 1 1 [255] rfl rfl (by decide) (news1' w5 _ _ (by first | rfl | omega | (simp; done))) (by have h2 := HLE.out; simp only [List.length_append, List.length_cons, List.length_nil] at h2 ⊢; omega) (HE5.out.alloc _).sz ?_; intro vw6 w6 hown hgrow; have HE6 := Lib.hid ((HE5.out.eo.alloc _).push hown hgrow); clear hgrow hown) | (at_builtin; refine wp_pushN rfl _ _ rfl B _ _ rfl (HEQ.out.own.alloc _) ⟨wr.heap.size, 0, none⟩ 1 1 [0] rfl rfl (by decide) (news1' wr _ _ (by first | rfl | omega | (simp; done))) (by have h2 := HLE.out; simp only [List.length_append] at h2 ⊢; omega) (HEQ.out.alloc _).sz ?_; intro vw5 w5 hown hgrow; have HE5 := Lib.hid ((HEQ.out.alloc _).push hown hgrow); clear hgrow hown))
        go_roundw
        case rel => exact ⟨q + 1, by omega, by go_num, by rw [HT.out, if_pos HZ.out, ← List.append_assoc]; simpa using HE6.out.eo⟩
        case measure => simp [intOf]; omega
      · have hz1 : (((s[q]'hqs).toNat : Int) == 0) = false := by simpa using hz
        have hz2 : ((s[q]'hqs) == 0) = false := by simpa using fun e => hz (by rw [e]; rfl)
        have hz3 : ((s[q]'hqs).toNat == 0) = false := by simpa using hz
        have hz4 : ¬ (s[q]'hqs) = 0 := fun e => hz (by rw [e]; rfl)
        have HZ := Lib.hid hz
        clear hlt8
        go_wp2_with (first | (at_builtin; refine wp_pushN rfl _ _ rfl B _ _ rfl (HEQ.out.own.alloc _) ⟨wr.heap.size, 0, none⟩ 1 1 [(s[q]'hqs).toNat] rfl rfl (by decide) (news1' wr _ _ (by first | rfl | omega | (simp; done))) (by have h2 := HLE.out; simp only [List.length_append] at h2 ⊢; omega) (HEQ.out.alloc _).sz ?_; intro vw5 w5 hown hgrow; have HE5 := Lib.hid ((HEQ.out.alloc _).push hown hgrow); clear hgrow hown))
        go_roundw
        case rel => exact ⟨q + 1, by omega, by go_num, by rw [HT.out, if_neg HZ.out, ← List.append_assoc]; exact HE5.out.eo⟩
        case measure => simp [intOf]; omega
    · obtain rfl : q = s.size := by omega
      have HLE := Lib.hid (HL.out s.size)
      rw [← hlen, List.take_length] at HEQ HLE
      go_wp2_with (first | (at_builtin; refine wp_pushN rfl _ _ rfl B _ _ rfl (HEQ.out.own.alloc _) ⟨wr.heap.size, 0, none⟩ 2 2 [0, 1] rfl rfl (by decide) (news2 wr 0 1) (by have h2 := HLE.out; simp only [List.length_append] at h2 ⊢; omega) (HEQ.out.alloc _).sz ?_; intro v7 w7 hown hgrow; have HE7 := Lib.hid ((HEQ.out.alloc _).push hown hgrow); clear hgrow hown))
      exact HP.out _ _ HE7.out

end Go.Proofs.YtmmchhlfbhbigaaDoor

namespace Go.Proofs.YtmmchhlfbhbigaaDoor
set_option maxRecDepth 100000
open Go.RowKit Go.Joins Go.ChangeShapes Go.WideShapes
set_option linter.unusedVariables false

theorem step_pushN {ops : Array Oper} {o : Oper} {a : Act} {w : World} {K : Act → World → Prop} {Q : Exit → Act → World → Prop} {E : Prop} (hgd : o.guard = none) (s x : Operand)
    (ho : o.op = .call { callee := .builtin .append, args := #[s, x], argTypes := #[30, 30] })
    (base : Nat) (v : Value) (l : List Nat) (hs : a.eval s = v) (hown : w.ownsRow base 5 1 v l.length (bcells l)) (ad : Addr) (m c : Nat) (r : List Nat) (hx : a.eval x = .slice (some ad) m c) (hm : r.length = m) (hm0 : m ≠ 0)
    (hnews : ∀ j u, (bcells r)[j]? = some u → w.cell? (ad.add j) = some u) (hsz : l.length + m ≤ 70368744177664) (hbase : base ≤ w.heap.size)
    (h : ∀ v' w', OwB w' base v' (l ++ r) → w.grownBy w' v.ownBlock → K (a.put o.dst v') w') : if Region.wanted o (yielded ops a.tmps) = true then Oper.wp Tryd.prog o a w K Q else E := by
  obtain ⟨i0, hi, hz0, hz1, hz2⟩ := info_parts infoB
  have hw : Region.wanted o (yielded ops a.tmps) = true := by simp [Region.wanted, hgd]
  rw [if_pos hw]
  refine wp_append_own w s x _ ho base 5 i0 _ 1 1 Tryd.underlying30 hi hz0 hz1 hz2 rfl (by decide) v l.length (bcells l) hs hown ad m c (bcells r) hx (by rw [bcells_length, hm, Nat.mul_one]) hnews (bcells_one r) (by unfold maxLen; omega) (by omega) hbase ?_
  intro v' w' h1 h2 h3
  refine h v' w' ⟨?_, fun e => hm0 (h3.1 e).2⟩ h2
  rw [bcells_app, List.length_append, hm]
  exact h1

/-- a value's bytes behind its kind, whatever the value -/
def vx (k n : Int) (s : ByteArray) : List Nat :=
  if k = 1 then [(n % 256).toNat] else if k = 2 then be8 (n + 9223372036854775808).toNat else if k = 3 then be8 (turnV (plV n)).toNat else if k = 4 then esc (sl s) ++ [0, 1] else []
def keyX (kf nf : Nat → Int) (sf : Nat → ByteArray) : Nat → List Nat
  | 0 => []
  | m + 1 => keyX kf nf sf m ++ ([((kf m + 1) % 256).toNat] ++ vx (kf m) (nf m) (sf m))
theorem vx_right {k n : Int} {s : ByteArray} (h : VCheck k n s = 0) (hi : InI n) : [((k + 1) % 256).toNat] ++ vx k n s = vb k n s := by
  obtain ⟨h0, h4, hr, hs, h2⟩ := vck h
  have e : (k + 1) % 256 = k + 1 := by omega
  unfold vx vb
  rw [e]
  by_cases c : k = 3
  · subst c
    have := turn_plV hi (rgt3 hi hr)
    rw [if_neg (by decide), if_neg (by decide), if_pos rfl, if_neg (by decide), if_neg (by decide), if_pos rfl, this]
    rfl
  · rw [if_neg c, if_neg c]
    rfl
theorem keyX_right (kf nf : Nat → Int) (sf : Nat → ByteArray) : ∀ m, (∀ i, i < m → VCheck (kf i) (nf i) (sf i) = 0 ∧ InI (nf i)) → keyX kf nf sf m = keyB kf nf sf m
  | 0, _ => rfl
  | m + 1, h => by
    unfold keyX keyB
    rw [keyX_right kf nf sf m (fun i hi => h i (by omega)), vx_right (h m (by omega)).1 (h m (by omega)).2]
theorem vx_le (k n : Int) (s : ByteArray) : (vx k n s).length ≤ 2 * s.size + 8 := by
  have h := esc_le (sl s)
  rw [sl_length] at h
  unfold vx
  repeat' split
  all_goals first | (simp [be8]; done) | (simp; omega)
theorem keyX_le (kf nf : Nat → Int) (sf : Nat → ByteArray) : ∀ m, (∀ i, i < m → (sf i).size ≤ 1048576) → (keyX kf nf sf m).length ≤ m * 2097161
  | 0, _ => by simp [keyX]
  | m + 1, h => by
    have h1 := keyX_le kf nf sf m (fun i hi => h i (by omega))
    have h2 := vx_le (kf m) (nf m) (sf m)
    have h3 := h m (by omega)
    unfold keyX
    rw [List.length_append, List.length_append, List.length_singleton]
    omega

set_option maxHeartbeats 2000000 in
theorem appval_any (W : World) (B : Nat) (v : Value) (l : List Nat) (hl : l.length ≤ 35184372088832) (k n : Int) (s : ByteArray) (hi : InI n) (hs : s.size ≤ 1048576) (w : World) (h : Eo W w B v l) :
    Calls Tryd.prog 98 #[v, Vv k n s] w fun e w' => ∃ v', e = .returned v' ∧ Eo W w' B v' (l ++ vx k n s) := by
  generalize hP : (fun (e : Ending) (w' : World) => ∃ v', e = .returned v' ∧ Eo W w' B v' (l ++ vx k n s)) = P
  have hpost : ∀ (v' : Value) (w' : World), Eo W w' B v' (l ++ vx k n s) → P (.returned v') w' := by
    intro v' w' h; rw [← hP]; exact ⟨v', rfl, h⟩
  have HP := Lib.hid hpost
  have HE := Lib.hid (h.alloc (.cells #[.int .i64 k, .int .i64 n, .string s] 134))
  have HB := Lib.hid (boxV_new w k n s)
  have HN := Lib.hid (fun u hu wx hx => appnum_any W B v l hl u hu wx hx)
  have HT := Lib.hid (fun wx hx => apptext_any W B v l hl s hs wx hx)
  have HPL := Lib.hid (placed_any n hi)
  have HTU := Lib.hid (turn_any (plV n) (plV_in hi))
  have hti := turn_in (plV_in hi)
  have HL := Lib.hid hl
  obtain ⟨i1, i2⟩ := hi
  clear hpost hP h hl
  unfold Vv
  go_enter Tryd.func98, Tryd.ntmps98
  go_upto_region 1 with fail
  generalize w.alloc (.cells #[.int .i64 k, .int .i64 n, .string s] 134) = wx at *
  generalize w.heap.size = g at *
  obtain ⟨c0, c1, c2⟩ := HB.out.cells
  by_cases k1 : k = 1
  · subst k1
    have hz : 0 ≤ n % 256 := Int.emod_nonneg _ (by decide)
    go_wp2_with (first | (at_builtin; refine wp_pushN rfl _ _ rfl B _ _ rfl (HE.out.own.alloc _) ⟨wx.heap.size, 0, none⟩ 1 1 [(n % 256).toNat] rfl rfl (by decide) (news1' wx _ _ (by first | rfl | omega | (simp only [IntKind.wrap_u8]; omega))) (by have := HL.out; simp; omega) (HE.out.alloc _).sz ?_; intro v3 w3 hown3 hgrow3; have HE3 := Lib.hid ((HE.out.alloc _).push hown3 hgrow3); clear hgrow3 hown3))
    exact HP.out _ _ HE3.out.eo
  have k1' : (k == 1) = false := by simpa using k1
  by_cases k2 : k = 2
  · subst k2
    obtain ⟨U, hU⟩ : ∃ U, (n + 9223372036854775808).toNat = U := ⟨_, rfl⟩
    obtain ⟨y, hy⟩ : ∃ y : Nat, IntKind.u64.wrap n = (y : Int) := ⟨(IntKind.u64.wrap n).toNat, by rw [IntKind.wrap_u64]; omega⟩
    have hx : bits .xor .u64 (y : Int) 9223372036854775808 = (U : Int) := by
      rw [IntKind.wrap_u64] at hy
      rw [xor_top y (by omega)]
      split <;> omega
    have HU := Lib.hid (HN.out U (by omega))
    have EU := Lib.hid (show vx 2 n s = be8 U by rw [← hU]; rfl)
    clear hU
    go_wp2_with (first | (go_at_call 125; refine (HU.out _ HE.out).mono ?_; rintro x w2 ⟨v2, rfl, h2⟩))
    exact HP.out _ _ (by rw [EU.out]; exact h2.eo)
  have k2' : (k == 2) = false := by simpa using k2
  by_cases k3 : k = 3
  · subst k3
    obtain ⟨U, hU⟩ : ∃ U, (turnV (plV n)).toNat = U := ⟨_, rfl⟩
    have e8 : turnV (plV n) = (U : Int) := by omega
    have HU := Lib.hid (HN.out U (by omega))
    have EU := Lib.hid (show vx 3 n s = be8 U by rw [← hU]; rfl)
    rw [e8] at HTU
    clear hU hti e8
    generalize plV n = q at *
    go_wp2_with (first | (go_at_call 127; refine (HPL.out _).mono ?_; rintro x w1 ⟨rfl, rfl⟩) | (go_at_call 126; refine (HTU.out _).mono ?_; rintro x w1 ⟨rfl, rfl⟩) | (go_at_call 125; refine (HU.out _ HE.out).mono ?_; rintro x w2 ⟨v2, rfl, h2⟩))
    exact HP.out _ _ (by rw [EU.out]; exact h2.eo)
  have k3' : (k == 3) = false := by simpa using k3
  by_cases k4 : k = 4
  · subst k4
    go_wp2_with (first | (go_at_call 128; refine (HT.out _ HE.out).mono ?_; rintro x w2 ⟨v2, rfl, h2⟩))
    exact HP.out _ _ h2.eo
  have k4' : (k == 4) = false := by simpa using k4
  go_wp2_with fail
  exact HP.out _ _ (by unfold vx; rw [if_neg k1, if_neg k2, if_neg k3, if_neg k4, List.append_nil]; exact HE.out)

set_option maxHeartbeats 4000000 in
theorem enc_all (a : Option Addr) (b off m cap : Nat) (kf nf : Nat → Int) (sf : Nat → ByteArray) (hm : m ≤ 4194304) (w : World) (ha : m = 0 ∨ a = some ⟨b, off, none⟩) (hA : IsV w b off m kf nf sf)
    (hr : ∀ i, i < m → InI (nf i) ∧ (sf i).size ≤ 1048576) :
    Calls Tryd.prog 68 #[.slice a m cap] w fun e w' => ∃ v, e = .returned v ∧ OutB w' w.heap.size v (keyX kf nf sf m) ∧ Below w.heap.size w w' := by
  generalize hP : (fun (e : Ending) (w' : World) => ∃ v, e = .returned v ∧ OutB w' w.heap.size v (keyX kf nf sf m) ∧ Below w.heap.size w w') = P
  have hpost : ∀ (v : Value) (w' : World), Eo w w' w.heap.size v (keyX kf nf sf m) → P (.returned v) w' := by
    intro v w' h; rw [← hP]; exact ⟨v, rfl, h.outB, h.bel⟩
  have HP := Lib.hid hpost
  have HR := Lib.hid hr
  have HA := Lib.hid ha
  clear hpost hP hr ha
  go_enter Tryd.func68, Tryd.ntmps68
  go_wp2
  go_loopw [3, 8] (fun v i wr => ∃ k : Nat, k ≤ m ∧ i = .int .i64 k ∧ Eo w wr w.heap.size v (keyX kf nf sf k)) (fun _ i _ => m - (intOf i).toNat)
  case atStart => exact ⟨0, by omega, rfl, Eo.nil w⟩
  case round =>
    obtain ⟨k, hk, rfl, hen⟩ := hrel
    by_cases hlt : k < m
    · obtain rfl : a = some ⟨b, off, none⟩ := by rcases HA.out with h | h; omega; exact h
      have hA' := hA.below hen.bel
      have a0 := hA'.c0 k hlt
      have a1 := hA'.c1 k hlt
      have a2 := hA'.c2 k hlt
      have hkm : (k : Int) < (m : Int) := by omega
      obtain ⟨i1, i2⟩ := HR.out k hlt
      have hl0 := keyX_le kf nf sf k (fun i hi => (HR.out i (by omega)).2)
      obtain ⟨kk, ek⟩ : ∃ x, kf k = x := ⟨_, rfl⟩
      obtain ⟨nn, en⟩ : ∃ x, nf k = x := ⟨_, rfl⟩
      obtain ⟨ss, es⟩ : ∃ x, sf k = x := ⟨_, rfl⟩
      rw [ek] at a0
      rw [en] at a1 i1
      rw [es] at a2 i2
      have ENXT : Hid (∀ v wx, Eo w wx w.heap.size v (keyX kf nf sf k ++ [((kk + 1) % 256).toNat] ++ vx kk nn ss) → Eo w wx w.heap.size v (keyX kf nf sf (k + 1))) := fun v wx h => by
        have e : keyX kf nf sf (k + 1) = keyX kf nf sf k ++ [((kk + 1) % 256).toNat] ++ vx kk nn ss := by rw [← ek, ← en, ← es, List.append_assoc]; rfl
        rw [e]; exact h
      have HE := Lib.hid (hen.alloc (.cells #[.int .i64 kk, .int .i64 nn, .string ss] 134))
      have HB := Lib.hid (boxV_new wr kk nn ss)
      generalize hL : keyX kf nf sf k = L at *
      have HL := Lib.hid (show L.length ≤ 8796172288004 by omega)
      have HV := Lib.hid (fun v' wx' (hx : Eo w wx' w.heap.size v' (L ++ [((kk + 1) % 256).toNat])) => appval_any w w.heap.size v' (L ++ [((kk + 1) % 256).toNat]) (by rw [List.length_append, List.length_singleton]; omega) kk nn ss i1 i2 wx' hx)
      unfold Vv at HV
      have hz8 : 0 ≤ (kk + 1) % 256 := Int.emod_nonneg _ (by decide)
      clear hA' ek en es i1 i2 hen hl0 hL
      go_upto_region 5 with fail
      generalize wr.alloc (.cells #[.int .i64 kk, .int .i64 nn, .string ss] 134) = wx at *
      generalize wr.heap.size = g at *
      clear a0 a1 a2
      obtain ⟨c0, c1, c2⟩ := HB.out.cells
      have hgl := HB.out.lt
      go_region_law (first | (refine step_pushN rfl _ _ rfl w.heap.size _ _ rfl (HE.out.drew.own.alloc _) ⟨wx.heap.size, 0, none⟩ 1 1 [((kk + 1) % 256).toNat] rfl rfl (by decide) (news1' wx.drew _ _ (by first | rfl | omega | (simp only [IntKind.wrap_u8, IntKind.wrap_i64]; omega))) (by have := HL.out; simp; omega) (HE.out.drew.alloc _).sz ?_; intro v1 w1 hown1 hgrow1; have HE1 := Lib.hid ((HE.out.drew.alloc _).push hown1 hgrow1); have HB1 := Lib.hid (BoxV.grownO (BoxV.alloc (show BoxV wx.drew _ _ _ _ from HB.out) _) (HE.out.drew.own.alloc _) hgrow1); obtain ⟨d0, d1, d2⟩ := HB1.out.cells; clear hgrow1 hown1) | (go_simp; go_at_call 98; refine (HV.out _ _ HE1.out.eo).mono ?_; rintro x w2 ⟨v2, rfl, h2⟩))
      all_goals
        go_wp2_with fail
        go_roundw
        case rel => exact ⟨k + 1, by omega, by go_num, ENXT.out _ _ h2⟩
        case measure => simp [intOf]; omega
    · obtain rfl : k = m := by omega
      have HE := Lib.hid hen
      clear hen
      go_wp2
      exact HP.out _ _ HE.out

theorem enc_any (a : Option Addr) (b off m cap : Nat) (kf nf : Nat → Int) (sf : Nat → ByteArray) (hm : m ≤ 4194304) (w : World) (ha : m = 0 ∨ a = some ⟨b, off, none⟩) (hA : IsV w b off m kf nf sf)
    (hr : ∀ i, i < m → VCheck (kf i) (nf i) (sf i) = 0 ∧ InI (nf i)) :
    Calls Tryd.prog 68 #[.slice a m cap] w fun e w' => ∃ v, e = .returned v ∧ OutB w' w.heap.size v (keyB kf nf sf m) ∧ Below w.heap.size w w' := by
  have h := enc_all a b off m cap kf nf sf hm w ha hA (fun i hi => ⟨(hr i hi).2, by have := (vck (hr i hi).1).2.2.2.2; omega⟩)
  rw [keyX_right kf nf sf m hr] at h
  exact h
theorem enc_wrong (a : Option Addr) (b off m cap : Nat) (kf nf : Nat → Int) (sf : Nat → ByteArray) (hm : m ≤ 4194304) (w : World) (ha : m = 0 ∨ a = some ⟨b, off, none⟩) (hA : IsV w b off m kf nf sf)
    (hr : ∀ i, i < m → InI (nf i) ∧ (sf i).size ≤ 1048576) :
    Calls Tryd.prog 68 #[.slice a m cap] w fun e w' => ∃ v, e = .returned v ∧ Below w.heap.size w w' :=
  (enc_all a b off m cap kf nf sf hm w ha hA hr).mono fun e w' ⟨v, h1, _, h3⟩ => ⟨v, h1, h3⟩

end Go.Proofs.YtmmchhlfbhbigaaDoor

namespace Go.Proofs.YtmmchhlfbhbigaaDoor
set_option maxRecDepth 100000
open Go.RowKit Go.Joins Go.ChangeShapes Go.WideShapes
set_option linter.unusedVariables false

theorem up_one {H : Type} (d : DataW H) : 1 ≤ Rows.uptoBulk d := by
  cases d with
  | lit l => cases l <;> simp [Rows.uptoBulk]
  | _ => simp [Rows.uptoBulk]
theorem up_mem {H : Type} {d : DataW H} : ∀ {l : List (DataW H)}, d ∈ l → Rows.uptoBulk d ≤ Rows.uptoBulkAll l
  | [], h => by cases h
  | x :: r, h => by
    unfold Rows.uptoBulkAll
    rcases List.mem_cons.1 h with rfl | h
    · omega
    · have := up_mem h; omega
theorem up_len {H : Type} : ∀ (l : List (DataW H)), l.length ≤ Rows.uptoBulkAll l
  | [] => by simp
  | x :: r => by
    unfold Rows.uptoBulkAll
    have := up_one x
    have := up_len r
    rw [List.length_cons]
    omega
theorem up_all {H : Type} {l : List (DataW H)} (hk : Rows.uptoSmall H l = true) : Rows.uptoBulkAll l ≤ 1048576 := of_decide_eq_true hk
theorem up_arg {H : Type} {l : List (DataW H)} (hk : Rows.uptoSmall H l = true) {d : DataW H} (h : d ∈ l) : Rows.uptoBulk d ≤ 1048576 := Nat.le_trans (up_mem h) (up_all hk)

/-- a list of values that came in, with what its data's bulk bounds -/
theorem open_vals3 {H : Type} {enc : TypeId × Value → H} {W : World} {base b0 : Nat} {r : Reach} {v : Value} {d : DataW H} {p : List MemPlace}
    (o : Value.okWide Tryd.prog W r b0 135 v) (h : DataW.Trod enc Tryd.prog W base (fun _ => true) true 135 v d p) (hb : Rows.uptoBulk d ≤ 1048576) :
    ∃ (a : Option Addr) (len cap b off : Nat) (kf nf : Nat → Int) (sf : Nat → ByteArray), v = .slice a len cap ∧ len ≤ cap ∧ cap ≤ 1048576 ∧ (len = 0 ∨ a = some ⟨b, off, none⟩) ∧ IsV W b off len kf nf sf ∧
      (∀ i, i < len → InI (nf i) ∧ (sf i).size ≤ 1048576) ∧ ((a = none ∧ len = 0 ∧ cap = 0) ∨ ∃ ad, a = some ad ∧ (0 < len → ad = ⟨b, off, none⟩)) := by
  obtain ⟨a, len, cap, b, off, kf, nf, sf, rfl, h1, h2, h3, h4, h5⟩ := open_vals o h
  obtain ⟨fuel, hf⟩ := h
  rcases Go.Deep.open_slice Tryd.underlying135 hf with ⟨hcs, hx⟩ | ⟨a', len', cap', m, n, D, Pl, hcs, hbb, hl, hm, hmm, hx, hi⟩
  · simp [Value.cells] at hcs
    obtain ⟨rfl, rfl, rfl⟩ := hcs
    exact ⟨_, _, _, b, off, kf, nf, sf, rfl, h1, by decide, h3, h4, fun i hi => absurd hi (by omega), .inl ⟨rfl, rfl, rfl⟩⟩
  · simp [Value.cells] at hcs
    obtain ⟨rfl, rfl, rfl⟩ := hcs
    simp only [if_true] at hmm
    subst hmm
    simp only [Prod.mk.injEq] at hx
    obtain ⟨rfl, -⟩ := hx
    have hbs : Rows.uptoBulkAll ((List.range len).map D) + Rows.uptoBulkAll ((List.range (m - len)).map fun j => D (len + j)) + 1 ≤ 1048576 := by
      have e : Rows.uptoBulk (DataW.slice ((List.range len).map D) ((List.range (m - len)).map fun j => D (len + j))) = _ := rfl
      unfold Rows.uptoBulk at hb
      exact hb
    have l1 := up_len ((List.range len).map D)
    have l2 := up_len ((List.range (m - len)).map fun j => D (len + j))
    rw [List.length_map, List.length_range] at l1 l2
    refine ⟨_, _, _, b, off, kf, nf, sf, rfl, h1, by omega, h3, h4, ?_, .inr ⟨_, rfl, fun h0 => by rcases h3 with g | g; omega; injection g⟩⟩
    rw [cellsV] at hi
    intro i hil
    obtain rfl : a' = ⟨b, off, none⟩ := by
      rcases h3 with g | g
      · omega
      · injection g
    have ea : ∀ j, (⟨b, off, none⟩ : Addr).add j = ⟨b, off + j, none⟩ := by intro j; unfold Addr.add; split <;> simp_all
    obtain ⟨cs', hc, ht⟩ := hi i (by omega)
    obtain ⟨y0, y1, y2, n', hy, hlen, g0, g1, g2⟩ := Go.Deep.trod_struct3 Tryd.underlying134 ht
    rw [cellsV] at hlen
    obtain ⟨_, hcl, hat⟩ := World.cells?_some hc
    match cs', hlen with
    | [c0, c1, c2], _ =>
      obtain ⟨k, e0, -, -⟩ := DataW.trod_int Tryd.underlying3 g0
      obtain ⟨q, e1, -, wq⟩ := DataW.trod_int Tryd.underlying2 g1
      obtain ⟨s, e2, ds, ws⟩ := DataW.trod_string Tryd.underlying9 g2
      simp [cells_int, cells_int64, cells_string] at e0 e1 e2
      subst e0 e1 e2
      have u1 := hat 1 (by decide)
      have u2 := hat 2 (by decide)
      rw [Go.Deep.add_add, ea, ← Nat.add_assoc] at u1 u2
      have v1 := h4.c1 i hil
      have v2 := h4.c2 i hil
      rw [u1] at v1
      rw [u2] at v2
      simp at v1 v2
      rw [← v1, ← v2]
      refine ⟨bounds_i64 wq, ?_⟩
      have hD : D i = DataW.agg [y0.1, y1.1, y2.1] := congrArg Prod.fst hy
      have m1 := up_mem (d := D i) (l := (List.range len).map D) (List.mem_map.2 ⟨i, List.mem_range.2 hil, rfl⟩)
      have m2 := up_mem (d := y2.1) (l := [y0.1, y1.1, y2.1]) (by simp)
      have m3 : Rows.uptoBulk y2.1 = s.data.toList.length + 1 := by rw [ds]; simp [Rows.uptoBulk]
      have m4 : Rows.uptoBulk (D i) = Rows.uptoBulkAll [y0.1, y1.1, y2.1] + 1 := by rw [hD]; simp [Rows.uptoBulk]
      have m5 : s.data.toList.length = s.size := by rw [Array.length_toList]; rfl
      omega

theorem cells_u8 : Tryd.prog.cellsOf 5 = 1 := by kernel_rfl
def cNat : Option Value → Nat | some (.int _ n) => n.toNat | _ => 0
/-- a row of bytes that came in -/
theorem open_bytes {H : Type} {enc : TypeId × Value → H} {W : World} {base b0 : Nat} {r : Reach} {v : Value} {d : DataW H} {p : List MemPlace}
    (o : Value.okWide Tryd.prog W r b0 30 v) (h : DataW.Trod enc Tryd.prog W base (fun _ => true) true 30 v d p) (hb : Rows.uptoBulk d ≤ 1048576) :
    ∃ (a : Option Addr) (l : List Nat) (cap b off : Nat), v = .slice a l.length cap ∧ l.length ≤ cap ∧ cap ≤ 1048576 ∧ (l.length = 0 ∨ a = some ⟨b, off, none⟩) ∧ IsB W b off l ∧ ((a = none ∧ l.length = 0 ∧ cap = 0) ∨ ∃ ad, a = some ad ∧ (0 < l.length → ad = ⟨b, off, none⟩)) := by
  obtain ⟨a, len, cap, rfl⟩ := okWide_slice Tryd.underlying30 o
  obtain ⟨fuel, hf⟩ := h
  rcases Go.Deep.open_slice Tryd.underlying30 hf with ⟨hcs, hx⟩ | ⟨a', len', cap', m, n, D, Pl, hcs, hbb, hl, hm, hmm, hx, hi⟩
  · simp [Value.cells] at hcs
    obtain ⟨rfl, rfl, rfl⟩ := hcs
    exact ⟨none, [], 0, 0, 0, rfl, Nat.le_refl _, by decide, .inl rfl, ⟨fun h => absurd h (by simp), fun i x hx => absurd hx (by simp), fun x hx => absurd hx (by simp)⟩, .inl ⟨rfl, rfl, rfl⟩⟩
  · simp [Value.cells] at hcs
    obtain ⟨rfl, rfl, rfl⟩ := hcs
    simp only [if_true] at hmm
    subst hmm
    simp only [Prod.mk.injEq] at hx
    obtain ⟨rfl, -⟩ := hx
    have hbs : Rows.uptoBulkAll ((List.range len).map D) + Rows.uptoBulkAll ((List.range (m - len)).map fun j => D (len + j)) + 1 ≤ 1048576 := by
      unfold Rows.uptoBulk at hb
      exact hb
    have l1 := up_len ((List.range len).map D)
    have l2 := up_len ((List.range (m - len)).map fun j => D (len + j))
    rw [List.length_map, List.length_range] at l1 l2
    rw [cells_u8] at hi
    have hcell : ∀ i, i < len → ∃ t : Int, W.cell? (a'.add i) = some (.int .u8 t) ∧ 0 ≤ t ∧ t < 256 := by
      intro i hil
      obtain ⟨cs', hc, ht⟩ := hi i (by omega)
      obtain ⟨_, hcl, hat⟩ := World.cells?_some hc
      obtain ⟨k, e0, -, wk⟩ := DataW.trod_int Tryd.underlying5 ht
      subst e0
      have := hat 0 (by decide)
      have hw : 0 ≤ k ∧ k ≤ 255 := by simpa [Lit.wf, IntKind.min, IntKind.max, IntKind.signed, IntKind.bits] using wk
      exact ⟨k, by simpa [Addr.add] using this, by omega, by omega⟩
    by_cases h0 : len = 0
    · subst h0
      exact ⟨_, [], m, 0, 0, rfl, hl, by omega, .inl rfl, ⟨fun h => absurd h (by simp), fun i x hx => absurd hx (by simp), fun x hx => absurd hx (by simp)⟩, .inr ⟨_, rfl, fun h => absurd h (by simp)⟩⟩
    · have hsp : a'.spot = none := by
        obtain ⟨k, c, -⟩ := hcell 0 (by omega)
        simpa [Addr.add] using World.cell?_spot c
      obtain ⟨b, off, spot⟩ := a'
      simp only at hsp
      subst hsp
      have ea : ∀ j, (⟨b, off, none⟩ : Addr).add j = ⟨b, off + j, none⟩ := by intro j; unfold Addr.add; split <;> simp_all
      have hlt : b < W.heap.size := by
        obtain ⟨k, c, -⟩ := hcell 0 (by omega)
        rw [ea] at c
        exact World.block_lt_of_cell? W _ c
      obtain ⟨l, el⟩ : ∃ l, (List.range len).map (fun i => cNat (W.cell? ⟨b, off + i, none⟩)) = l := ⟨_, rfl⟩
      have hll : l.length = len := by rw [← el]; simp
      have hat : ∀ (i x : Nat), l[i]? = some x → W.cell? ⟨b, off + i, none⟩ = some (.int .u8 (x : Int)) ∧ x < 256 := by
        intro i x hx
        have hil : i < len := by rw [← hll]; exact (List.getElem?_eq_some_iff.1 hx).1
        rw [← el, List.getElem?_map, List.getElem?_range hil] at hx
        obtain ⟨t, c, t0, t1⟩ := hcell i hil
        rw [ea] at c
        simp only [Option.map_some, Option.some.injEq] at hx
        rw [c] at hx
        simp only [cNat] at hx
        rw [c]
        refine ⟨?_, by omega⟩
        congr 2
        omega
      refine ⟨some ⟨b, off, none⟩, l, m, b, off, by rw [hll], by omega, by omega, .inr rfl, ⟨fun _ => hlt, fun i x hx => (hat i x hx).1, fun x hx => ?_⟩, .inr ⟨_, rfl, fun _ => rfl⟩⟩
      obtain ⟨i, hi⟩ := List.getElem?_of_mem hx
      exact (hat i x hi).2

/-- append of a row of bytes that came in -/
theorem wp_copyA {ops : Array Oper} {rest : List Oper} {o : Oper} {a : Act} {w : World} {Q : Exit → Act → World → Prop} (hgd : o.guard = none) (s x : Operand)
    (ho : o.op = .call { callee := .builtin .append, args := #[s, x], argTypes := #[30, 30] })
    (base : Nat) (v : Value) (l : List Nat) (hs : a.eval s = v) (hown : OwB w base v l) (A : Option Addr) (c : Nat) (r : List Nat) (hx : a.eval x = .slice A r.length c)
    (b off : Nat) (hN : (A = none ∧ r.length = 0 ∧ c = 0) ∨ ∃ ad, A = some ad ∧ (0 < r.length → ad = ⟨b, off, none⟩)) (hr : IsB w b off r) (hsz : l.length + r.length ≤ 70368744177664) (hbase : base ≤ w.heap.size)
    (h : ∀ v' w', OwB w' base v' (l ++ r) → w.grownBy w' v.ownBlock → wpList Tryd.prog ops Q rest (a.put o.dst v') w') : wpList Tryd.prog ops Q (o :: rest) a w := by
  rcases hN with ⟨rfl, h0, rfl⟩ | ⟨ad, rfl, had⟩
  · have hr0 : r = [] := List.length_eq_zero_iff.1 h0
    subst hr0
    obtain ⟨i0, hi, hz0, hz1, hz2⟩ := info_parts infoB
    refine wpList_append_own_none hgd s x _ ho base 5 i0 1 Tryd.underlying30 hi v l.length (bcells l) hs hown.1 hx (h v w ?_ ⟨rfl, rfl, rfl, Nat.le_refl _, fun _ _ _ => rfl⟩)
    rw [List.append_nil]
    exact hown
  · refine wp_push hgd s x ho base v l hs hown ad r.length c r hx rfl (fun j u hj => ?_) hsz hbase h
    have hj2 : j < (bcells r).length := (List.getElem?_eq_some_iff.1 hj).1
    rw [bcells_length] at hj2
    rw [had (by omega)]
    have ea : (⟨b, off, none⟩ : Addr).add j = ⟨b, off + j, none⟩ := by unfold Addr.add; split <;> simp_all
    rw [ea]
    have hx2 : r[j]? = some (r[j]'hj2) := List.getElem?_eq_getElem hj2
    simp only [bcells, List.getElem?_map, hx2, Option.map_some, Option.some.injEq] at hj
    rw [← hj]
    exact hr.c j _ hx2
theorem str_arg {w : World} {A : Option Addr} {b off c : Nat} {r : List Nat} (hN : r.length = 0 ∨ A = some ⟨b, off, none⟩) (h0 : A = none → r.length = 0) (hr : IsB w b off r) : (convert 30 9 (.slice A r.length c)).run Tryd.prog w = .ok (.string (strB r)) w := by
  cases A with
  | none =>
    have : r = [] := List.length_eq_zero_iff.1 (h0 rfl)
    subst this
    exact run_convert_bytes_nil w 30 5 Tryd.underlying30 Tryd.underlying5 _ _ 9 Tryd.underlying9
  | some ad =>
    rcases hN with h | h
    · have : r = [] := List.length_eq_zero_iff.1 h
      subst this
      rw [run_convert_bytes_string w 30 9 5 (some ad) _ c Tryd.underlying30 Tryd.underlying5 Tryd.underlying9]
      exact run_bytesToString w ad 0 c [] (by simp [loadCells, loadCellsFrom, Sem.run_pure])
    · injection h with h
      subst h
      refine run_convert_bytes_arg w 30 5 Tryd.underlying30 Tryd.underlying5 b off r.length c (r.map fun n : Nat => (n : Int)) (by simp) (fun i hi => ?_) 9 Tryd.underlying9
      have hx2 : r[i]? = some (r[i]'hi) := List.getElem?_eq_getElem hi
      rw [hr.c i _ hx2]
      simp [List.getD_eq_getElem?_getD, List.getElem?_map, hx2]
theorem bytes_made (w : World) : OwB (w.alloc (.cells #[] 5)) w.heap.size (.slice (some ⟨w.heap.size, 0, none⟩) 0 0) [] := ⟨World.ownsRow_made w #[] 0 (Nat.le_refl _) (by decide) rfl, by simp⟩

end Go.Proofs.YtmmchhlfbhbigaaDoor

namespace Go.Proofs.YtmmchhlfbhbigaaDoor
set_option maxRecDepth 100000
open Go.RowKit Go.Joins Go.ChangeShapes Go.WideShapes
set_option linter.unusedVariables false

theorem isV_l (w : World) (l : List Vt) (cs : Array Value) (h : cs.toList = vlcells l) : IsV (w.alloc (.cells cs 134)) w.heap.size 0 l.length (kF l) (nF l) (sF l) := by
  have hg := heap_alloc_new w (.cells cs 134)
  have hc : ∀ j u, (vlcells l)[j]? = some u → (w.alloc (.cells cs 134)).cell? ⟨w.heap.size, j, none⟩ = some u := by
    intro j u hj
    rw [cell_of_block hg j, ← Array.getElem?_toList, h]
    exact hj
  refine ⟨fun _ => by simp, ?_, ?_, ?_⟩
  all_goals
    intro i hi
    have hx : l[i]? = some (l[i]'hi) := List.getElem?_eq_getElem hi
    obtain ⟨h1, h2, h3⟩ := vlcells_at l i _ hx
    rw [Nat.zero_add]
  · rw [hc _ _ h1]; simp [kF, List.getD_eq_getElem?_getD, hx]
  · rw [hc _ _ h2]; simp [nF, List.getD_eq_getElem?_getD, hx]
  · rw [hc _ _ h3]; simp [sF, List.getD_eq_getElem?_getD, hx]
theorem isB_l (w : World) (l : List Nat) (cs : Array Value) (h : cs.toList = bcells l) (hl : ∀ x ∈ l, x < 256) : IsB (w.alloc (.cells cs 5)) w.heap.size 0 l := by
  have hg := heap_alloc_new w (.cells cs 5)
  refine ⟨fun _ => by simp, fun i x hx => ?_, hl⟩
  rw [Nat.zero_add, cell_of_block hg i, ← Array.getElem?_toList, h]
  simp only [bcells, List.getElem?_map, hx, Option.map_some]

end Go.Proofs.YtmmchhlfbhbigaaDoor

namespace Go.Proofs.YtmmchhlfbhbigaaDoor
set_option maxRecDepth 100000
open Go.RowKit Go.Joins Go.ChangeShapes Go.WideShapes
set_option linter.unusedVariables false

/-- append with room, onto a row that is known whole, as a step of a region -/
theorem step_roomP {ops : Array Oper} {o : Oper} {a : Act} {w : World} {K : Act → World → Prop} {Q : Exit → Act → World → Prop} {E : Prop} (hgd : o.guard = none) (s x : Operand)
    (ho : o.op = .call { callee := .builtin .append, args := #[s, x], argTypes := #[122, 122] })
    (g n cap : Nat) (cur : List Value) (hs : a.eval s = .slice (some ⟨g, 0, none⟩) n cap) (hg : w.heap[g]? = some (.cells cur.toArray 131 (0, 0))) (hc : cur.length = cap * 3)
    (ad : Addr) (m c : Nat) (rs : List Pv) (hx : a.eval x = .slice (some ad) m c) (hm : rs.length = m)
    (hnews : ∀ j u, (pcells rs)[j]? = some u → w.cell? (ad.add j) = some u) (hroom : n + m ≤ cap)
    (h : ∀ w', w' = w.setRow g (splice cur (n * 3) (pcells rs)).toArray → K (a.put o.dst (.slice (some ⟨g, 0, none⟩) (n + m) cap)) w') : if Region.wanted o (yielded ops a.tmps) = true then Oper.wp Tryd.prog o a w K Q else E := by
  obtain ⟨i0, hi, hz0, hz1, hz2⟩ := info_parts infoP
  have hl : (pcells rs).length = m * 3 := by rw [pcells_length, hm]
  refine step_append_room hgd s x _ ho 131 i0 3 Tryd.underlying122 hi hz1 g 0 n cap hs ad m c (pcells rs) hx hl hnews (pcells_one rs) hroom
    (fun j hj => ⟨by rw [cell_of_block hg]; rw [List.getElem?_toArray, List.getElem?_eq_getElem (by rw [hl] at hj; omega)]; rfl, unfrozen_of_block hg _⟩) ?_
  rw [Nat.zero_add]
  exact h _ (setCells_row hg (by rw [hl, hc]; omega) (pcells_one rs))

set_option maxHeartbeats 4000000 in
set_option maxRecDepth 100000 in
theorem del_any (B : Nat) (w : World) (v : Value) (l : List Pv) (hown : OwP w B v l) (hsz : l.length ≤ 4294967296) (i j : Nat) (hij : i < j) (hj : j ≤ l.length) :
    Calls Tryd.prog 95 #[v, .int .i64 i, .int .i64 j] w fun e w' => ∃ v', e = .returned v' ∧ OwP w' B v' (l.take i ++ l.drop j) ∧ v'.ownBlock = v.ownBlock ∧ w.grownBy w' v.ownBlock := by
  rcases hown.cases with ⟨-, rfl⟩ | ⟨g, cap, cur, rfl, hb, hg, hn, hc, hs, ht⟩
  · simp at hj; omega
  generalize hP : (fun (e : Ending) (w' : World) => ∃ v', e = .returned v' ∧ OwP w' B v' (l.take i ++ l.drop j) ∧ v'.ownBlock = (Value.slice (some ⟨g, 0, none⟩) l.length cap).ownBlock ∧ w.grownBy w' (Value.slice (some ⟨g, 0, none⟩) l.length cap).ownBlock) = P
  have hlen : (l.take i ++ l.drop j).length = i + (l.length - j) := by rw [List.length_append, List.length_take, List.length_drop]; omega
  have hd : (l.drop j).length = l.length - j := List.length_drop
  obtain ⟨cur1, hcur1⟩ : ∃ c, c = splice cur (i * 3) (pcells (l.drop j)) := ⟨_, rfl⟩
  obtain ⟨cur2, hcur2⟩ : ∃ c, c = splice cur1 ((i + (l.length - j)) * 3) (pcells (List.replicate (l.length - (i + (l.length - j))) zp)) := ⟨_, rfl⟩
  obtain ⟨W1, hW1⟩ : ∃ W1, W1 = w.drew.setRow g cur1.toArray := ⟨_, rfl⟩
  have hgd : w.drew.heap[g]? = some (.cells cur.toArray 131 (0, 0)) := hg
  have hg1 : W1.heap[g]? = some (.cells cur1.toArray 131 (0, 0)) := by rw [hW1]; exact setRow_heap _ _ _ _ _ _ hgd
  have l1 : cur1.length = cap * 3 := by rw [hcur1, length_splice _ _ _ (by rw [pcells_length, hd]; omega), hs]
  have l2 : cur2.length = cap * 3 := by rw [hcur2, length_splice _ _ _ (by rw [pcells_length, List.length_replicate]; omega), l1]
  have hpost : ∀ w', w' = W1.setRow g cur2.toArray → P (.returned (.slice (some ⟨g, 0, none⟩) (i + (l.length - j)) cap)) w' := by
    intro w' hw'
    rw [← hP]
    refine ⟨_, rfl, ?_, rfl, ?_⟩
    · rw [← hlen]
      refine OwP.mk (cur := cur2) hb ?_ (by omega) hc l2 ?_
      · rw [hw']; exact setRow_heap _ _ _ _ _ _ hg1
      · rw [hlen, hcur2, splice_far (Nat.le_refl _) (by rw [l1]; omega), hcur1, pcells_app, show (i + (l.length - j)) * 3 = i * 3 + (pcells (l.drop j)).length by rw [pcells_length, hd]; omega]
        refine splice_one ?_ ?_ (by rw [pcells_length, hd]; omega)
        · rw [← pcells_take, ← ht, List.take_take]; congr 1; omega
        · rw [pcells_length, List.length_take]; omega
    · rw [hw', hW1]
      exact ⟨rfl, rfl, rfl, by simp, fun k hk hne => by
        have : k ≠ g := fun e => hne (by rw [e]; rfl)
        rw [setRow_other _ _ _ _ this, setRow_other _ _ _ _ this]; rfl⟩
  have hcl : ∀ ty, (Builtin.clear_ #[122] ty #[.slice (some ⟨g, (i + (l.length - j)) * 3, none⟩) (l.length - (i + (l.length - j))) (cap - (i + (l.length - j)))]).run Tryd.prog W1 = .ok (.tuple #[]) (W1.setRow g cur2.toArray) := by
    intro ty
    rw [hcur2]
    exact run_clear_p W1 ty g _ _ _ cur1 _ hg1 (by omega) (by rw [l1]; omega)
  obtain ⟨A, hA, hsrc⟩ : ∃ A : Addr, (if cap = j then some (⟨g, 0, none⟩ : Addr) else some ⟨g, j * 3, none⟩) = some A ∧ Hid (∀ t u, (pcells (l.drop j))[t]? = some u → w.drew.cell? (A.add t) = some u) := by
    by_cases h : cap = j
    · refine ⟨⟨g, 0, none⟩, by simp [h], fun t u hu => ?_⟩
      rw [List.drop_eq_nil_of_le (by omega)] at hu
      simp [pcells] at hu
    · exact ⟨⟨g, j * 3, none⟩, by simp [h], hown.from j⟩
  have HP := Lib.hid hpost
  have HG := Lib.hid hgd
  have HS := Lib.hid hs
  have HD := Lib.hid hd
  have HW := Lib.hid (show W1 = w.drew.setRow g (splice cur (i * 3) (pcells (l.drop j))).toArray by rw [hW1, hcur1])
  have HC2 := Lib.hid l2
  have hhi : l.length ≤ cap := hn
  have hne : ¬ cap = i + (l.length - j) := by omega
  have hij2 : ¬ (i : Int) = (j : Int) := by omega
  have hic : i ≤ cap := by omega
  have hjc : j ≤ cap := by omega
  have hkc : i + (l.length - j) ≤ cap := by omega
  generalize l.length = n at *
  unfold maxLen at hc
  clear hpost hP hgd hs hd hg hg1 l1 l2 hcur1 hcur2 hW1 ht hlen hown
  go_enter Tryd.func95, Tryd.ntmps95
  go_wp2_with fail
  go_region_law (refine step_roomP rfl (.tmp 22) (.tmp 25) rfl g i cap cur (by simp [Act.eval, Act.put]) HG.out HS.out A (n - j) (cap - j) (l.drop j) (by simp [Act.eval, Act.put]) HD.out hsrc.out (by omega) ?_; rw [← HW.out]; rintro w1 rfl)
  go_wp2
  exact HP.out _ rfl

end Go.Proofs.YtmmchhlfbhbigaaDoor

namespace Go.Proofs.YtmmchhlfbhbigaaDoor
set_option maxRecDepth 100000
open Go.RowKit Go.Joins Go.ChangeShapes Go.WideShapes
set_option linter.unusedVariables false

set_option maxHeartbeats 1000000 in
set_option maxRecDepth 100000 in
theorem clone_any (w : World) (g off m c : Nat) (rs : List Pv) (hm : rs.length = m) (hnews : ∀ j u, (pcells rs)[j]? = some u → w.cell? ((⟨g, off, none⟩ : Addr).add j) = some u) (hsz : m ≤ 4294967296) :
    Calls Tryd.prog 120 #[.slice (some ⟨g, off, none⟩) m c] w fun e w' => ∃ v', e = .returned v' ∧ OwP w' w.heap.size v' rs ∧ Below w.heap.size w w' := by
  generalize hP : (fun (e : Ending) (w' : World) => ∃ v', e = .returned v' ∧ OwP w' w.heap.size v' rs ∧ Below w.heap.size w w') = P
  have hpost : ∀ v' w', OwP w' w.heap.size v' rs → Below w.heap.size w w' → P (.returned v') w' := by
    intro v' w' h1 h2; rw [← hP]; exact ⟨v', rfl, h1, h2⟩
  have HP := Lib.hid hpost
  obtain ⟨W1, hW1⟩ : ∃ W1, W1 = w.alloc (.cells #[] 131) := ⟨_, rfl⟩
  have HO := Lib.hid (show OwP W1 w.heap.size (.slice (some ⟨w.heap.size, 0, none⟩) 0 0) [] by rw [hW1]; exact World.ownsRow_made w #[] 0 (Nat.le_refl _) (by decide) rfl)
  have hb : Below w.heap.size w W1 := by rw [hW1]; exact (Below.refl _ _).alloc (Nat.le_refl _) _
  have HB := Lib.hid hb
  have HN := Lib.hid (show ∀ j u, (pcells rs)[j]? = some u → W1.cell? ((⟨g, off, none⟩ : Addr).add j) = some u by rw [hW1]; exact fun j u h => Lib.cell?_alloc_some _ (hnews j u h))
  have HW := Lib.hid hW1
  have HM := Lib.hid hm
  have heq : (binOp .eql 122 (.slice (some ⟨g, off, none⟩) m c) (.slice none 0 0)).run Tryd.prog w = .ok (.bool false) w := Lib.run_eql_slice_nil w _ _ _ _ _ _ _ Tryd.underlying122
  clear hpost hP hnews hb hW1 hm
  go_enter Tryd.func120, Tryd.ntmps120
  go_wp2_with (first | (at_builtin; rw [← HW.out]; refine wp_pushP rfl (.tmp 5) (.tmp 6) rfl w.heap.size (.slice (some ⟨w.heap.size, 0, none⟩) 0 0) [] rfl HO.out HB.out.size ⟨g, off, none⟩ m c rs HM.out rfl HN.out (by simp; omega) ?_; intro v1 w1 hown1 hgrow1 hnew1; have HX := Lib.hid (And.intro hown1 (HB.out.grown hgrow1 HB.out.size (fun k hk => (HO.out.lt k hk).1))); clear hown1 hgrow1 hnew1))
  exact HP.out _ _ (by have := HX.out.1; simpa using this) HX.out.2

/-- a part that has just been laid in a block of its own -/
def BoxP (w : World) (gv : Nat) (p : Pv) : Prop := w.heap[gv]? = some (.cells #[.string p.1, .int .i64 p.2.1, kp p.2.2] 131 (0, 0))
theorem BoxP.news {w : World} {gv : Nat} {p : Pv} (h : BoxP w gv p) : ∀ j u, (pcells [p])[j]? = some u → w.cell? ((⟨gv, 0, none⟩ : Addr).add j) = some u :=
  World.news_of_block (cs := #[.string p.1, .int .i64 p.2.1, kp p.2.2]) h

theorem insert_row {l : List Pv} {p : Pv} {i : Nat} (hi : i ≤ l.length) : (l.take i ++ p :: l.drop i).length = l.length + 1 := by
  rw [List.length_append, List.length_cons, List.length_take, List.length_drop]; omega

/-- at the end -/
theorem ins_end (B : Nat) (w : World) (hB : B ≤ w.heap.size) (v : Value) (l : List Pv) (hown : OwP w B v l) (hsz : l.length ≤ 4294967296) (p : Pv) (gv : Nat) (hv : BoxP w gv p) :
    Calls Tryd.prog 119 #[v, .int .i64 (l.length : Nat), .slice (some ⟨gv, 0, none⟩) 1 1] w fun e w' => ∃ v', e = .returned v' ∧ OwP w' B v' (l ++ [p]) ∧ w.grownBy w' v.ownBlock ∧ NewB w v v' := by
  generalize hP : (fun (e : Ending) (w' : World) => ∃ v', e = .returned v' ∧ OwP w' B v' (l ++ [p]) ∧ w.grownBy w' v.ownBlock ∧ NewB w v v') = P
  have hpost : ∀ v' w', OwP w' B v' (l ++ [p]) → w.grownBy w' v.ownBlock → NewB w v v' → P (.returned v') w' := by
    intro v' w' h1 h2 h3; rw [← hP]; exact ⟨v', rfl, h1, h2, h3⟩
  have HP := Lib.hid hpost
  have HO := Lib.hid hown
  have HN := Lib.hid hv.news
  have hf : ∃ a cap, v = .slice a l.length cap ∧ l.length ≤ cap := by
    rcases hown.cases with ⟨rfl, rfl⟩ | ⟨g, cap, cur, rfl, hb, hg, hn, hc, hs, ht⟩
    · exact ⟨none, 0, rfl, Nat.le_refl _⟩
    · exact ⟨_, cap, rfl, hn⟩
  obtain ⟨a, cap, rfl, hcap⟩ := hf
  obtain ⟨n, hn⟩ : ∃ n, l.length = n := ⟨_, rfl⟩
  have HL := Lib.hid hn
  rw [hn] at HP HO hsz hcap ⊢
  clear hpost hP hown hv hn
  go_enter Tryd.func119, Tryd.ntmps119
  go_wp2_with (first | (at_builtin; refine wp_pushP rfl (.tmp 23) (.tmp 24) rfl B _ l rfl HO.out hB ⟨gv, 0, none⟩ 1 1 [p] rfl rfl HN.out (by rw [HL.out]; omega) ?_; intro v1 w1 hown1 hgrow1 hnew1; have HX := Lib.hid (And.intro hown1 (And.intro hgrow1 hnew1)); clear hown1 hgrow1 hnew1))
  all_goals exact HP.out _ _ HX.out.1 HX.out.2.1 HX.out.2.2

set_option maxHeartbeats 4000000 in
set_option maxRecDepth 100000 in
/-- there is room -/
theorem ins_room (B : Nat) (w : World) (g cap : Nat) (l : List Pv) (hown : OwP w B (.slice (some ⟨g, 0, none⟩) l.length cap) l) (hsz : l.length ≤ 4294967296) (i : Nat) (hi : i < l.length) (hr : l.length + 1 ≤ cap) (p : Pv) (gv : Nat) (hv : BoxP w gv p) (hne : gv ≠ g) :
    Calls Tryd.prog 119 #[.slice (some ⟨g, 0, none⟩) l.length cap, .int .i64 i, .slice (some ⟨gv, 0, none⟩) 1 1] w fun e w' => ∃ v', e = .returned v' ∧ OwP w' B v' (l.take i ++ p :: l.drop i) ∧ w.grownBy w' (some g) ∧ v'.ownBlock = some g := by
  obtain ⟨cur, hb, hg, hc, hs, ht⟩ : ∃ cur : List Value, B ≤ g ∧ w.heap[g]? = some (.cells cur.toArray 131 (0, 0)) ∧ cap ≤ maxLen ∧ cur.length = cap * 3 ∧ cur.take (l.length * 3) = pcells l := by
    rcases hown.cases with ⟨e, -⟩ | ⟨g', cap', cur, e, hb, hg, hn, hc, hs, ht⟩
    · simp at e
    · simp only [Value.slice.injEq, Option.some.injEq, Addr.mk.injEq, and_true, true_and] at e
      obtain ⟨rfl, rfl⟩ := e
      exact ⟨cur, hb, hg, hc, hs, ht⟩
  generalize hP : (fun (e : Ending) (w' : World) => ∃ v', e = .returned v' ∧ OwP w' B v' (l.take i ++ p :: l.drop i) ∧ w.grownBy w' (some g) ∧ v'.ownBlock = some g) = P
  have hd : (l.drop i).length = l.length - i := List.length_drop
  have hlen := insert_row (p := p) (Nat.le_of_lt hi)
  obtain ⟨cur1, hcur1⟩ : ∃ c, c = splice cur ((i + 1) * 3) (pcells (l.drop i)) := ⟨_, rfl⟩
  obtain ⟨cur2, hcur2⟩ : ∃ c, c = splice cur1 (i * 3) (pcells [p]) := ⟨_, rfl⟩
  obtain ⟨W1, hW1⟩ : ∃ W1, W1 = w.drew.setRow g cur1.toArray := ⟨_, rfl⟩
  have hgd : w.drew.heap[g]? = some (.cells cur.toArray 131 (0, 0)) := hg
  have hg1 : W1.heap[g]? = some (.cells cur1.toArray 131 (0, 0)) := by rw [hW1]; exact setRow_heap _ _ _ _ _ _ hgd
  have l1 : cur1.length = cap * 3 := by rw [hcur1, length_splice _ _ _ (by rw [pcells_length, hd]; omega), hs]
  have l2 : cur2.length = cap * 3 := by rw [hcur2, length_splice _ _ _ (by rw [pcells_length, List.length_singleton]; omega), l1]
  have hpost : ∀ w', w' = W1.setRow g cur2.toArray → P (.returned (.slice (some ⟨g, 0, none⟩) (l.length + 1) cap)) w' := by
    intro w' hw'
    rw [← hP]
    refine ⟨_, rfl, ?_, ?_, rfl⟩
    · rw [← hlen]
      refine OwP.mk (cur := cur2) hb ?_ (by rw [hlen]; omega) hc l2 ?_
      · rw [hw']; exact setRow_heap _ _ _ _ _ _ hg1
      · rw [hlen, show l.take i ++ p :: l.drop i = l.take i ++ [p] ++ l.drop i by simp, pcells_app, pcells_app, hcur2, hcur1]
        have := splice_two' (X := pcells (l.take i)) (Y := pcells [p]) (Z := pcells (l.drop i)) (cur := cur) (a := i * 3) (by rw [← pcells_take, ← ht, List.take_take]; congr 1; omega) (by rw [pcells_length, List.length_take]; omega) (by rw [pcells_length, pcells_length, hd, List.length_singleton]; omega)
        rw [pcells_length, pcells_length, hd, List.length_singleton, show i * 3 + 1 * 3 + (l.length - i) * 3 = (l.length + 1) * 3 by omega, show i * 3 + 1 * 3 = (i + 1) * 3 by omega] at this
        exact this
    · rw [hw', hW1]
      exact ⟨rfl, rfl, rfl, by simp, fun k hk hne => by
        have : k ≠ g := fun e => hne (by rw [e])
        rw [setRow_other _ _ _ _ this, setRow_other _ _ _ _ this]; rfl⟩
  have hov : ∀ lb cb, (callFunc 145 #[.slice (some ⟨gv, 0, none⟩) 1 1, .slice (some ⟨g, (i + 1) * 3, none⟩) lb cb]).run Tryd.prog w = .ok (.value (.bool false)) w := fun lb cb => by
    rw [run_callFunc_extern (fn := Tryd.f145) (by kernel_rfl) (by kernel_rfl) (by kernel_rfl) (by kernel_rfl) (e := Extern.SlicesOverlaps.overlaps #[122, 122] #[4]) (by kernel_rfl),
      Lib.run_overlaps_apart w 122 4 131 Tryd.underlying122 3 (fun w => by first | rfl | kernel_rfl) ⟨gv, 0, none⟩ ⟨g, (i + 1) * 3, none⟩ 1 1 lb cb hne 131 131 3 (cap * 3) (by unfold World.shape?; rw [hv]; rfl) (by unfold World.shape?; rw [hg]; simp [hs]) (by omega) (unfrozen_of_block hv _) (unfrozen_of_block hv _)]
    rfl
  have HP := Lib.hid hpost
  have HG := Lib.hid hgd
  have HG1 := Lib.hid hg1
  have HS := Lib.hid hs
  have HL1 := Lib.hid l1
  have HD := Lib.hid hd
  have HW := Lib.hid (show W1 = w.drew.setRow g (splice cur ((i + 1) * 3) (pcells (l.drop i))).toArray by rw [hW1, hcur1])
  have HC2 := Lib.hid hcur2
  have HSR := Lib.hid (show ∀ j u, (pcells (l.drop i))[j]? = some u → w.drew.cell? ((⟨g, i * 3, none⟩ : Addr).add j) = some u from hown.from i)
  have HVN := Lib.hid (show ∀ j u, (pcells [p])[j]? = some u → W1.cell? ((⟨gv, 0, none⟩ : Addr).add j) = some u by
    intro j u h
    rw [hW1]
    have := hv.news j u h
    have ea : (⟨gv, 0, none⟩ : Addr).add j = ⟨gv, j, none⟩ := add0 gv j
    rw [ea] at this ⊢
    rw [cell_setRow_other _ _ _ _ hne]
    exact this)
  have h1 : i ≤ l.length := by omega
  have h2 : i ≤ cap := by omega
  have h3 : i + 1 ≤ l.length + 1 := by omega
  have h4 : i + 1 ≤ cap := by omega
  have h5 : ¬ cap = i := by omega
  have h6 : ¬ cap = i + 1 := by omega
  have h7 : ¬ (i : Int) = (l.length : Int) := by omega
  have h8 : l.length + 1 ≤ cap := hr
  have h9 : ¬ ((cap : Int) < (l.length : Int) + 1) := by omega
  generalize l.length = n at *
  unfold maxLen at hc
  have hw1 : IntKind.i64.wrap ((i : Int) + 1) = (i : Int) + 1 := IntWalk.i64_in _ (by omega)
  have hw2 : (0 : Int) ≤ (i : Int) + 1 := by omega
  have hw3 : ((i : Int) + 1).toNat = i + 1 := by omega
  have hw4 : (i : Int) ≤ (n : Int) := by omega
  have hw5 : (i : Int) ≤ (n : Int) + 1 := by omega
  clear hpost hP hgd hs hd hg hg1 l1 l2 hcur1 hcur2 hW1 ht hlen hown hv
  go_enter Tryd.func119, Tryd.ntmps119
  go_wp2_with (simp only [hov])
  go_region_law (refine step_copyP rfl (.tmp 73) (.tmp 76) rfl g ((i + 1) * 3) _ _ ⟨g, i * 3, none⟩ _ _ (by simp [Act.eval, Act.put]; exact ⟨rfl, rfl⟩) (by simp [Act.eval, Act.put]; exact ⟨rfl, rfl⟩) cur _ HG.out (l.drop i) (by rw [HD.out]; simp only [Nat.min_def]; split <;> omega) HSR.out (by rw [HD.out, HS.out]; omega) ?_; rw [← HW.out]; rintro w1 rfl)
  go_wp2_with (refine wp_copyP rfl (.tmp 80) (.tmp 81) rfl g (i * 3) _ _ ⟨gv, 0, none⟩ _ _ rfl rfl cur1 _ HG1.out [p] (by simp only [Nat.min_def, List.length_singleton]; split <;> omega) HVN.out (by rw [HL1.out, List.length_singleton]; omega) ?_; rw [← HC2.out]; rintro w2 rfl)
  exact HP.out _ rfl

set_option maxHeartbeats 4000000 in
set_option maxRecDepth 100000 in
/-- there is no room -/
theorem ins_grow (B : Nat) (w : World) (hB : B ≤ w.heap.size) (g cap : Nat) (l : List Pv) (hown : OwP w B (.slice (some ⟨g, 0, none⟩) l.length cap) l) (hsz : l.length ≤ 4294967296) (i : Nat) (hi : i < l.length) (hr : cap < l.length + 1) (p : Pv) (gv : Nat) (hv : BoxP w gv p) :
    Calls Tryd.prog 119 #[.slice (some ⟨g, 0, none⟩) l.length cap, .int .i64 i, .slice (some ⟨gv, 0, none⟩) 1 1] w fun e w' => ∃ v', e = .returned v' ∧ OwP w' B v' (l.take i ++ p :: l.drop i) ∧ w.grownBy w' none ∧ ∀ k, v'.ownBlock = some k → w.heap.size ≤ k := by
  obtain ⟨cur0, hb, hg, hc, hs, ht, hn⟩ : ∃ cur : List Value, B ≤ g ∧ w.heap[g]? = some (.cells cur.toArray 131 (0, 0)) ∧ cap ≤ maxLen ∧ cur.length = cap * 3 ∧ cur.take (l.length * 3) = pcells l ∧ l.length ≤ cap := by
    rcases hown.cases with ⟨e, -⟩ | ⟨g', cap', cur, e, hb, hg, hn, hc, hs, ht⟩
    · simp at e
    · simp only [Value.slice.injEq, Option.some.injEq, Addr.mk.injEq, and_true, true_and] at e
      obtain ⟨rfl, rfl⟩ := e
      exact ⟨cur, hb, hg, hc, hs, ht, hn⟩
  generalize hP : (fun (e : Ending) (w' : World) => ∃ v', e = .returned v' ∧ OwP w' B v' (l.take i ++ p :: l.drop i) ∧ w.grownBy w' none ∧ ∀ k, v'.ownBlock = some k → w.heap.size ≤ k) = P
  have hd : (l.drop i).length = l.length - i := List.length_drop
  have hlen := insert_row (p := p) (Nat.le_of_lt hi)
  have hgl : g < w.heap.size := (Array.getElem?_eq_some_iff.1 hg).1
  have hvl : gv < w.heap.size := (Array.getElem?_eq_some_iff.1 hv).1
  -- the new row
  obtain ⟨i0, hi0, hz0, hz1, hz2⟩ := info_parts infoP
  have hold : (Builtin.firstCells i0.size i (.slice (some ⟨g, 0, none⟩) i cap)).run Tryd.prog w.drew = .ok (pcells (l.take i)).toArray w.drew :=
    run_firstCells_some w.drew _ i ⟨g, 0, none⟩ i cap _ (by rw [pcells_length, hz1, List.length_take]; omega) (fun j u hj => by
      rw [← pcells_take, List.getElem?_take] at hj
      split at hj
      · have := hown.from 0 j u hj
        exact this
      · cases hj)
  obtain ⟨k, hk⟩ : ∃ k, k = l.length + 1 - i := ⟨_, rfl⟩
  have hge := grownCap_ge w (i + k) cap 131
  have hcm : grownCap w (i + k) cap 131 ≤ maxLen := grownCap_le_maxLen w (i + k) cap _ (by unfold maxLen; omega)
  have hrun0 : ∀ ty, _ := fun ty => Lib.run_append_grow_zeros (P := Tryd.prog) w 122 3 ty 131 i0 _ .i64 .i64 Tryd.underlying122 Tryd.underlying3 hi0 hz0 (some ⟨g, 0, none⟩) i cap _ hold k (by omega) (by omega) (by omega) (by omega) (by rw [hz2]; omega) (growslice_fits (by omega) (by rw [hz2]; omega))
  obtain ⟨c1, hc1⟩ : ∃ c, c = grownCap w (i + k) cap 131 := ⟨_, rfl⟩
  obtain ⟨cur, hcur⟩ : ∃ cur : List Value, cur = pcells (l.take i) ++ pcells (List.replicate k zp) ++ pcells (List.replicate (c1 - (i + k)) zp) := ⟨_, rfl⟩
  obtain ⟨W0, hW0⟩ : ∃ W0, W0 = w.drew.alloc (.cells cur.toArray 131) := ⟨_, rfl⟩
  have hrun : ∀ ty, (Builtin.append_ #[122, 3] ty #[.slice (some ⟨g, 0, none⟩) i cap, .int .i64 ((l.length : Int) + 1 - (i : Int))]).run Tryd.prog w = .ok (.slice (some ⟨w.heap.size, 0, none⟩) (l.length + 1) c1) W0 := by
    intro ty
    have := hrun0 ty
    rw [← hc1] at this
    rw [show ((l.length : Int) + 1 - (i : Int)) = ((k : Nat) : Int) by omega, this, hW0, hcur, show i + k = l.length + 1 by omega]
    congr 3
    apply Array.toList_inj.1
    simp only [Array.toList_append, zeroCells_p, List.append_assoc]
  rw [← hc1, show i + k = l.length + 1 by omega] at hge
  have hg0 : W0.heap[w.heap.size]? = some (.cells cur.toArray 131 (0, 0)) := by rw [hW0]; exact heap_alloc_new w.drew _
  have hs0 : cur.length = c1 * 3 := by
    rw [hcur, List.length_append, List.length_append, pcells_length, pcells_length, pcells_length, List.length_take, List.length_replicate, List.length_replicate]; omega
  have ht0 : cur.take (i * 3) = pcells (l.take i) := by
    rw [hcur, List.append_assoc, show i * 3 = (pcells (l.take i)).length by rw [pcells_length, List.length_take]; omega]
    exact List.take_left
  obtain ⟨cur1, hcur1⟩ : ∃ c, c = splice cur (i * 3) (pcells [p]) := ⟨_, rfl⟩
  obtain ⟨cur2, hcur2⟩ : ∃ c, c = splice cur1 ((i + 1) * 3) (pcells (l.drop i)) := ⟨_, rfl⟩
  obtain ⟨W1, hW1⟩ : ∃ W1, W1 = W0.setRow w.heap.size cur1.toArray := ⟨_, rfl⟩
  have hg1 : W1.drew.heap[w.heap.size]? = some (.cells cur1.toArray 131 (0, 0)) := by rw [hW1]; exact setRow_heap _ _ _ _ _ _ hg0
  have l1 : cur1.length = c1 * 3 := by rw [hcur1, length_splice _ _ _ (by rw [pcells_length, List.length_singleton]; omega), hs0]
  have l2 : cur2.length = c1 * 3 := by rw [hcur2, length_splice _ _ _ (by rw [pcells_length, hd]; omega), l1]
  have hpost : ∀ w', w' = W1.drew.setRow w.heap.size cur2.toArray → P (.returned (.slice (some ⟨w.heap.size, 0, none⟩) (l.length + 1) c1)) w' := by
    intro w' hw'
    rw [← hP]
    refine ⟨_, rfl, ?_, ?_, ?_⟩
    · rw [← hlen]
      refine OwP.mk (cur := cur2) hB ?_ (by rw [hlen]; omega) (by rw [hc1]; exact hcm) l2 ?_
      · rw [hw']; exact setRow_heap _ _ _ _ _ _ hg1
      · rw [hlen, show l.take i ++ p :: l.drop i = l.take i ++ [p] ++ l.drop i by simp, pcells_app, pcells_app, hcur2, hcur1]
        have := splice_two (X := pcells (l.take i)) (Y := pcells [p]) (Z := pcells (l.drop i)) (cur := cur) (a := i * 3) ht0 (by rw [pcells_length, List.length_take]; omega) (by rw [pcells_length, pcells_length, hd, List.length_singleton]; omega)
        rw [pcells_length, pcells_length, hd, List.length_singleton, show i * 3 + 1 * 3 + (l.length - i) * 3 = (l.length + 1) * 3 by omega, show i * 3 + 1 * 3 = (i + 1) * 3 by omega] at this
        exact this
    · rw [hw', hW1, hW0]
      exact ⟨rfl, rfl, rfl, by simp, fun k hk hne => by
        have h1 : k ≠ w.heap.size := by omega
        rw [setRow_other _ _ _ _ h1]
        show (World.setRow _ _ _).heap[k]? = _
        rw [setRow_other _ _ _ _ h1]
        exact heap_alloc_old w.drew _ hk⟩
    · intro k hk
      simp only [Value.ownBlock, Option.some.injEq] at hk
      omega
  have HP := Lib.hid hpost
  have HG0 := Lib.hid hg0
  have HG1 := Lib.hid hg1
  have HS := Lib.hid hs0
  have HL1 := Lib.hid l1
  have HD := Lib.hid hd
  have HW := Lib.hid (show W1 = W0.setRow w.heap.size (splice cur (i * 3) (pcells [p])).toArray by rw [hW1, hcur1])
  have HC2 := Lib.hid hcur2
  have hcell : ∀ b, b < w.heap.size → W0.heap[b]? = w.heap[b]? := by intro b hb; rw [hW0]; exact heap_alloc_old w.drew _ hb
  have HVN := Lib.hid (show ∀ j u, (pcells [p])[j]? = some u → W0.cell? ((⟨gv, 0, none⟩ : Addr).add j) = some u by
    intro j u h
    have := hv.news j u h
    rw [add0] at this ⊢
    rw [← this]
    exact World.cell?_of_block (a := ⟨gv, j, none⟩) (hcell gv hvl))
  have HSR := Lib.hid (show ∀ j u, (pcells (l.drop i))[j]? = some u → W1.drew.cell? ((⟨g, i * 3, none⟩ : Addr).add j) = some u by
    intro j u h
    have := hown.from i j u h
    have ea : (⟨g, i * 3, none⟩ : Addr).add j = ⟨g, i * 3 + j, none⟩ := by unfold Addr.add; split <;> simp_all
    rw [ea] at this ⊢
    rw [← this]
    refine World.cell?_of_block (a := ⟨g, i * 3 + j, none⟩) ?_
    show W1.heap[g]? = w.heap[g]?
    rw [hW1, setRow_other _ _ _ _ (by omega), hcell g hgl])
  have h1 : i ≤ l.length := by omega
  have h2 : i ≤ cap := by omega
  have h3 : i + 1 ≤ l.length + 1 := by omega
  have h4 : i + 1 ≤ c1 := by omega
  have h4b : i ≤ c1 := by omega
  have h5 : ¬ c1 = i := by omega
  have h6 : ¬ c1 = i + 1 := by omega
  have h5b : ¬ cap = i := by omega
  have h7 : ¬ (i : Int) = (l.length : Int) := by omega
  have h9 : (cap : Int) < (l.length : Int) + 1 := by omega
  clear hrun0 hcm hc1 hk hi0 hz0 hz1 hz2 hold hcell
  generalize l.length = n at *
  unfold maxLen at hc
  have hw1 : IntKind.i64.wrap ((i : Int) + 1) = (i : Int) + 1 := IntWalk.i64_in _ (by omega)
  have hw2 : (0 : Int) ≤ (i : Int) + 1 := by omega
  have hw3 : ((i : Int) + 1).toNat = i + 1 := by omega
  have hw4 : (i : Int) ≤ (n : Int) := by omega
  have hw5 : (i : Int) ≤ (n : Int) + 1 := by omega
  clear hpost hP hs hd hg hg0 hg1 hs0 ht0 l1 l2 hcur hcur1 hcur2 hW1 hW0 ht hlen hown hv
  have HR := Lib.hid hrun
  clear hrun
  go_enter Tryd.func119, Tryd.ntmps119
  go_wp2_with (first | (at_builtin; refine Lib.wpList_append_run _ rfl (.tmp 34) (.tmp 39) _ _ rfl _ _ rfl rfl _ _ (HR.out _) ?_) | (refine wp_copyP rfl (.tmp 43) (.tmp 44) rfl w.heap.size (i * 3) _ _ ⟨gv, 0, none⟩ _ _ rfl rfl cur _ HG0.out [p] (by simp only [Nat.min_def, List.length_singleton]; split <;> omega) HVN.out (by rw [HS.out, List.length_singleton]; omega) ?_; rw [← HW.out]; rintro w2 rfl))
  go_region_law (refine step_copyP rfl (.tmp 50) (.tmp 53) rfl w.heap.size ((i + 1) * 3) _ _ ⟨g, i * 3, none⟩ _ _ (by simp [Act.eval, Act.put]; exact ⟨rfl, rfl⟩) (by simp [Act.eval, Act.put]; exact ⟨rfl, rfl⟩) cur1 _ HG1.out (l.drop i) (by rw [HD.out]; simp only [Nat.min_def]; split <;> omega) HSR.out (by rw [HD.out, HL1.out]; omega) ?_; rw [← HC2.out]; rintro w1 rfl)
  go_wp2
  exact HP.out _ rfl

/-- slices.Insert -/
theorem ins_any (B : Nat) (w : World) (hB : B ≤ w.heap.size) (v : Value) (l : List Pv) (hown : OwP w B v l) (hsz : l.length ≤ 4294967296) (i : Nat) (hi : i ≤ l.length) (p : Pv) (gv : Nat) (hv : BoxP w gv p) (hne : v.ownBlock ≠ some gv) :
    Calls Tryd.prog 119 #[v, .int .i64 i, .slice (some ⟨gv, 0, none⟩) 1 1] w fun e w' => ∃ v', e = .returned v' ∧ OwP w' B v' (l.take i ++ p :: l.drop i) ∧ w.grownBy w' v.ownBlock ∧ NewB w v v' := by
  by_cases c : i = l.length
  · subst c
    rw [List.take_of_length_le (Nat.le_refl _), List.drop_eq_nil_of_le (Nat.le_refl _)]
    exact ins_end B w hB v l hown hsz p gv hv
  · rcases hown.cases with ⟨rfl, rfl⟩ | ⟨g, cap, cur, rfl, hb, hg, hn, hc, hs, ht⟩
    · simp at hi c; omega
    · by_cases r : l.length + 1 ≤ cap
      · refine (ins_room B w g cap l hown hsz i (by omega) r p gv hv (fun e => hne (by rw [e]; rfl))).mono ?_
        rintro e w' ⟨v', rfl, h1, h2, h3⟩
        exact ⟨v', rfl, h1, h2, fun k hk => .inl (by rw [h3] at hk; exact hk)⟩
      · refine (ins_grow B w hB g cap l hown hsz i (by omega) (by omega) p gv hv).mono ?_
        rintro e w' ⟨v', rfl, h1, h2, h3⟩
        exact ⟨v', rfl, h1, ⟨h2.os, h2.tape, h2.output, h2.size, fun k hk _ => h2.block k hk (by simp)⟩, fun k hk => .inr (h3 k hk)⟩

end Go.Proofs.YtmmchhlfbhbigaaDoor

namespace Go.Proofs.YtmmchhlfbhbigaaDoor
set_option maxRecDepth 100000
open Go.RowKit Go.Joins Go.ChangeShapes Go.WideShapes
set_option linter.unusedVariables false

/-- an entry: its key's bytes, its number -/
abbrev Ent := List Nat × Int
/-- an entry as it lies: its key's slice, its number -/
abbrev Ev := Value × Int
def ecells : List Ev → List Value
  | [] => []
  | e :: r => [e.1, .int .i64 e.2] ++ ecells r
theorem ecells_length (l : List Ev) : (ecells l).length = l.length * 2 := by
  induction l with
  | nil => rfl
  | cons v r ih => simp [ecells, ih]; omega
theorem ecells_app (l r : List Ev) : ecells (l ++ r) = ecells l ++ ecells r := by
  induction l with
  | nil => rfl
  | cons v l ih => simp only [List.cons_append, ecells, ih, List.append_assoc]
theorem ecells_at (l : List Ev) (i : Nat) (v : Ev) (h : l[i]? = some v) : (ecells l)[i * 2]? = some v.1 ∧ (ecells l)[i * 2 + 1]? = some (.int .i64 v.2) := by
  induction l generalizing i with
  | nil => simp at h
  | cons u l ih =>
    unfold ecells
    cases i with
    | zero =>
      simp only [List.getElem?_cons_zero, Option.some.injEq] at h
      subst h
      exact ⟨rfl, rfl⟩
    | succ i =>
      rw [List.getElem?_cons_succ] at h
      obtain ⟨h1, h2⟩ := ih i h
      have e : ∀ j, ([u.1, Value.int .i64 u.2] ++ ecells l)[(i + 1) * 2 + j]? = (ecells l)[i * 2 + j]? := by
        intro j
        rw [List.getElem?_append_right (by simp; omega)]
        congr 1
        simp
        omega
      exact ⟨(e 0).trans h1, (e 1).trans h2⟩

/-- a key as it lies, in blocks of R -/
def KeyAt (w : World) (R : Bl) (u : Value) (k : List Nat) : Prop := ∃ (a : Option Addr) (b off cap : Nat), u = .slice a k.length cap ∧ (k.length = 0 ∨ (a = some ⟨b, off, none⟩ ∧ R b)) ∧ IsB w b off k
theorem KeyAt.step {w w1 : World} {R F : Bl} {u : Value} {k : List Nat} (h : KeyAt w R u k) (hf : Frm F w w1) (hd : ∀ k, R k → ¬ F k) : KeyAt w1 R u k := by
  obtain ⟨a, b, off, cap, e, h1, h2⟩ := h
  refine ⟨a, b, off, cap, e, h1, hf.isB h2 (fun hl => ?_)⟩
  rcases h1 with h1 | h1
  · omega
  · exact hd _ h1.2
theorem KeyAt.mono {w : World} {R R' : Bl} {u : Value} {k : List Nat} (h : KeyAt w R u k) (hr : ∀ k, R k → R' k) : KeyAt w R' u k := by
  obtain ⟨a, b, off, cap, e, h1, h2⟩ := h
  exact ⟨a, b, off, cap, e, h1.imp_right (fun h => ⟨h.1, hr _ h.2⟩), h2⟩
theorem KeyAt.one {w : World} {R : Bl} {u : Value} {k : List Nat} (h : KeyAt w R u k) : u.oneCell' = true := by
  obtain ⟨a, b, off, cap, rfl, -⟩ := h
  rfl
/-- entries as they lie, and what they are -/
structure EntsAt (w : World) (R : Bl) (L : List Ev) (l : List Ent) : Prop where
  len : L.length = l.length
  at' : ∀ (i : Nat) (p : Ev) (e : Ent), L[i]? = some p → l[i]? = some e → KeyAt w R p.1 e.1 ∧ p.2 = e.2
theorem EntsAt.step {w w1 : World} {R F : Bl} {L : List Ev} {l : List Ent} (h : EntsAt w R L l) (hf : Frm F w w1) (hd : ∀ k, R k → ¬ F k) : EntsAt w1 R L l :=
  ⟨h.len, fun i p e hp he => ⟨(h.at' i p e hp he).1.step hf hd, (h.at' i p e hp he).2⟩⟩
theorem EntsAt.mono {w : World} {R R' : Bl} {L : List Ev} {l : List Ent} (h : EntsAt w R L l) (hr : ∀ k, R k → R' k) : EntsAt w R' L l :=
  ⟨h.len, fun i p e hp he => ⟨(h.at' i p e hp he).1.mono hr, (h.at' i p e hp he).2⟩⟩
theorem EntsAt.nil (w : World) (R : Bl) : EntsAt w R [] [] := ⟨rfl, fun i p e hp => by simp at hp⟩
theorem EntsAt.app {w : World} {R : Bl} {L M : List Ev} {l m : List Ent} (h : EntsAt w R L l) (h2 : EntsAt w R M m) : EntsAt w R (L ++ M) (l ++ m) := by
  refine ⟨by rw [List.length_append, List.length_append, h.len, h2.len], fun i p e hp he => ?_⟩
  by_cases c : i < L.length
  · rw [List.getElem?_append_left c] at hp
    rw [List.getElem?_append_left (by rw [← h.len]; exact c)] at he
    exact h.at' i p e hp he
  · rw [List.getElem?_append_right (by omega)] at hp
    rw [List.getElem?_append_right (by rw [← h.len]; omega), ← h.len] at he
    exact h2.at' _ p e hp he
theorem EntsAt.take {w : World} {R : Bl} {L : List Ev} {l : List Ent} (h : EntsAt w R L l) (k : Nat) : EntsAt w R (L.take k) (l.take k) := by
  refine ⟨by rw [List.length_take, List.length_take, h.len], fun i p e hp he => ?_⟩
  rw [List.getElem?_take] at hp he
  split at hp
  · rename_i c
    rw [if_pos c] at he
    exact h.at' i p e hp he
  · cases hp
theorem EntsAt.drop {w : World} {R : Bl} {L : List Ev} {l : List Ent} (h : EntsAt w R L l) (k : Nat) : EntsAt w R (L.drop k) (l.drop k) := by
  refine ⟨by rw [List.length_drop, List.length_drop, h.len], fun i p e hp he => ?_⟩
  rw [List.getElem?_drop] at hp he
  exact h.at' _ p e hp he
theorem EntsAt.one {w : World} {R : Bl} {u : Value} {k : List Nat} (id : Int) (h : KeyAt w R u k) : EntsAt w R [(u, id)] [(k, id)] := by
  refine ⟨rfl, fun i p e hp he => ?_⟩
  cases i with
  | zero =>
    simp only [List.getElem?_cons_zero, Option.some.injEq] at hp he
    subst hp he
    exact ⟨h, rfl⟩
  | succ i => simp at hp
theorem EntsAt.cells_one {w : World} {R : Bl} : ∀ {L : List Ev} {l : List Ent}, EntsAt w R L l → ∀ u ∈ ecells L, u.oneCell' = true
  | [], _, _ => by intro u hu; cases hu
  | p :: L, [], h => by have := h.len; simp at this
  | p :: L, e :: l, h => by
    intro u hu
    unfold ecells at hu
    rcases List.mem_append.1 hu with h1 | h1
    · simp only [List.mem_cons, List.not_mem_nil, or_false] at h1
      rcases h1 with rfl | rfl
      · exact ((h.at' 0 p e rfl rfl).1).one
      · rfl
    · exact EntsAt.cells_one (w := w) (R := R) (L := L) (l := l) ⟨by have := h.len; simpa using this, fun i p e hp he => h.at' (i + 1) p e hp he⟩ u h1

/-- a list of entries of the call's own -/
def OwE (w : World) (base : Nat) (v : Value) (L : List Ev) : Prop := w.ownsRow base 80 2 v L.length (ecells L) ∧ v ≠ .slice none 0 0
/-- the list of entries in memory: in blocks of R, behind B -/
structure MEx (B : Nat) (w : World) (R : Bl) (v : Value) (L : List Ev) (l : List Ent) : Prop where
  own : OwE w B v L
  ents : EntsAt w R L l
  rv : ∀ k, v.ownBlock = some k → R k
  rb : ∀ k, R k → B ≤ k ∧ k < w.heap.size
theorem Frm.owE {F : Bl} {w w1 : World} (h : Frm F w w1) {base : Nat} {v : Value} {L : List Ev} (ho : OwE w base v L) (hf : ∀ k, v.ownBlock = some k → ¬ F k) : OwE w1 base v L := ⟨h.ownsRow ho.1 hf, ho.2⟩
theorem MEx.step {B : Nat} {w w1 : World} {R F : Bl} {v : Value} {L : List Ev} {l : List Ent} (h : MEx B w R v L l) (hf : Frm F w w1) (hd : ∀ k, R k → ¬ F k) : MEx B w1 R v L l :=
  ⟨hf.owE h.own (fun k hk => hd k (h.rv k hk)), h.ents.step hf hd, h.rv, fun k hk => ⟨(h.rb k hk).1, Nat.lt_of_lt_of_le (h.rb k hk).2 hf.size⟩⟩
theorem MEx.below {B : Nat} {w w1 : World} {R : Bl} {v : Value} {L : List Ev} {l : List Ent} (h : MEx B w R v L l) (hb : Below w.heap.size w w1) : MEx B w1 R v L l := h.step (Frm.of_below (F := fun _ => False) hb) (fun _ _ h => h)
theorem OwE.form {w : World} {base : Nat} {v : Value} {L : List Ev} (h : OwE w base v L) : ∃ g cap, v = .slice (some ⟨g, 0, none⟩) L.length cap ∧ base ≤ g ∧ g < w.heap.size ∧ (∀ o, w.frozen? ⟨g, o, none⟩ = false) ∧
    ∀ (i : Nat) (p : Ev), L[i]? = some p → w.cell? ⟨g, i * 2, none⟩ = some p.1 ∧ w.cell? ⟨g, i * 2 + 1, none⟩ = some (.int .i64 p.2) := by
  obtain ⟨⟨h1, h2⟩, h3⟩ := h
  rcases h2 with ⟨e, _⟩ | ⟨g, cap, cur, e, hb, hg, hn, hc, hs, ht⟩
  · exact absurd e h3
  · have hc : ∀ (j : Nat) (u : Value), (ecells L)[j]? = some u → w.cell? ⟨g, j, none⟩ = some u := by
      intro j u hj
      rw [cell_of_block hg j]
      rw [← ht, List.getElem?_take] at hj
      split at hj
      · rw [← Array.getElem?_toList]; exact hj
      · cases hj
    exact ⟨g, cap, e, hb, (Array.getElem?_eq_some_iff.1 hg).1, fun o => unfrozen_of_block hg o, fun i p hp => ⟨hc _ _ (ecells_at L i p hp).1, hc _ _ (ecells_at L i p hp).2⟩⟩

/-- the place of the first entry that isn't ahead of a key, and whether it is of that key -/
def ePlN : List Ent → List Nat → Nat → Nat × Bool
  | [], _, i => (i, false)
  | e :: r, k, i => if 0 ≤ ordB e.1 k then (i, decide (ordB e.1 k = 0)) else ePlN r k (i + 1)
def ePl (l : List Ent) (k : List Nat) : Nat × Bool := ePlN l k 0
theorem ePlN_le : ∀ (l : List Ent) (k : List Nat) (i : Nat), i ≤ (ePlN l k i).1 ∧ (ePlN l k i).1 ≤ i + l.length ∧ ((ePlN l k i).2 = true → (ePlN l k i).1 < i + l.length)
  | [], k, i => ⟨Nat.le_refl _, by simp [ePlN], by simp [ePlN]⟩
  | e :: r, k, i => by
    unfold ePlN
    split
    · exact ⟨Nat.le_refl _, by simp, by simp⟩
    · have := ePlN_le r k (i + 1)
      rw [List.length_cons]
      refine ⟨by omega, by omega, fun h => ?_⟩
      have := this.2.2 h
      omega
theorem ePl_le (l : List Ent) (k : List Nat) : (ePl l k).1 ≤ l.length ∧ ((ePl l k).2 = true → (ePl l k).1 < l.length) := by
  have := ePlN_le l k 0
  unfold ePl
  refine ⟨by omega, fun h => ?_⟩
  have := this.2.2 h
  omega

end Go.Proofs.YtmmchhlfbhbigaaDoor

namespace Go.Proofs.YtmmchhlfbhbigaaDoor
set_option maxRecDepth 100000
open Go.RowKit Go.Joins Go.ChangeShapes Go.WideShapes
set_option linter.unusedVariables false

theorem ob_turn : ∀ (l r : List Nat), ordB r l = -ordB l r
  | [], [] => rfl
  | [], _ :: _ => rfl
  | _ :: _, [] => rfl
  | a :: l, b :: r => by
    have := ob_turn l r
    unfold ordB
    rcases Nat.lt_trichotomy a b with h | h | h
    · rw [if_neg (by omega), if_pos h, if_pos h]; rfl
    · subst h; simp only [Nat.lt_irrefl, if_false]; exact this
    · rw [if_pos h, if_neg (by omega), if_pos h]
theorem ob_vals (l r : List Nat) : ordB l r = -1 ∨ ordB l r = 0 ∨ ordB l r = 1 := by
  induction l generalizing r with
  | nil => cases r <;> simp [ordB]
  | cons a l ih =>
    cases r with
    | nil => simp [ordB]
    | cons b r =>
      unfold ordB
      split
      · exact .inl rfl
      · split
        · exact .inr (.inr rfl)
        · exact ih r
theorem ob_zero : ∀ (l r : List Nat), ordB l r = 0 → l = r
  | [], [], _ => rfl
  | [], _ :: _, h => by simp [ordB] at h
  | _ :: _, [], h => by simp [ordB] at h
  | a :: l, b :: r, h => by
    unfold ordB at h
    split at h
    · cases h
    · split at h
      · cases h
      · have : a = b := by omega
        rw [this, ob_zero l r h]
theorem ob_self (l : List Nat) : ordB l l = 0 := by have := ob_turn l l; omega
def klt (a b : List Nat) : Prop := ordB a b < 0
theorem klt_trans : ∀ {a b c : List Nat}, klt a b → klt b c → klt a c
  | [], [], _, h, _ => by simp [klt, ordB] at h
  | _ :: _, [], _, h, _ => by simp [klt, ordB] at h
  | [], _ :: _, [], _, h => by simp [klt, ordB] at h
  | _ :: _, _ :: _, [], _, h => by simp [klt, ordB] at h
  | [], _ :: _, _ :: _, _, _ => by simp [klt, ordB]
  | a :: l, b :: r, c :: s, h, g => by
    unfold klt ordB at *
    by_cases h1 : a < b
    · by_cases g1 : b < c
      · rw [if_pos (by omega)]; decide
      · rw [if_neg g1] at g
        by_cases g2 : c < b
        · rw [if_pos g2] at g; exact absurd g (by decide)
        · rw [if_pos (by omega)]; decide
    · rw [if_neg h1] at h
      by_cases h2 : b < a
      · rw [if_pos h2] at h; exact absurd h (by decide)
      · rw [if_neg h2] at h
        obtain rfl : a = b := by omega
        by_cases g1 : a < c
        · rw [if_pos g1]; decide
        · rw [if_neg g1] at g ⊢
          by_cases g2 : c < a
          · rw [if_pos g2] at g; exact absurd g (by decide)
          · rw [if_neg g2] at g ⊢
            exact klt_trans (a := l) (b := r) (c := s) h g
theorem klt_irr (a : List Nat) : ¬ klt a a := by unfold klt; rw [ob_self]; decide
theorem klt_asym {a b : List Nat} (h : klt a b) : ¬ klt b a := fun g => klt_irr a (klt_trans h g)
theorem klt_or (a b : List Nat) : klt a b ∨ a = b ∨ klt b a := by
  unfold klt
  rcases ob_vals a b with h | h | h
  · exact .inl (by omega)
  · exact .inr (.inl (ob_zero _ _ h))
  · exact .inr (.inr (by rw [ob_turn]; omega))
theorem not_klt {a b : List Nat} : 0 ≤ ordB a b ↔ ¬ klt a b := by unfold klt; omega
theorem klt_of_not {a b c : List Nat} (h : ¬ klt b a) (g : klt b c) : klt a c := by
  rcases klt_or a b with h1 | h1 | h1
  · exact klt_trans h1 g
  · rw [h1]; exact g
  · exact absurd h1 h
theorem klt_of_not' {a b c : List Nat} (h : klt a b) (g : ¬ klt c b) : klt a c := by
  rcases klt_or b c with h1 | h1 | h1
  · exact klt_trans h h1
  · rw [← h1]; exact h
  · exact absurd h1 g
theorem nklt_trans {a b c : List Nat} (h : ¬ klt a b) (g : ¬ klt b c) : ¬ klt a c := fun e => by
  rcases klt_or a b with h1 | h1 | h1
  · exact h h1
  · rw [h1] at e; exact g e
  · exact g (klt_trans h1 e)
theorem sc_ob : ∀ (l r : List UInt8), Lib.compareBytes l r = ordB (l.map fun b => b.toNat) (r.map fun b => b.toNat)
  | [], [] => rfl
  | [], _ :: _ => rfl
  | _ :: _, [] => rfl
  | a :: l, b :: r => by
    simp only [Lib.compareBytes, List.map_cons, ordB, UInt8.lt_iff_toNat_lt, sc_ob l r]
theorem scmp_ob (s t : ByteArray) : SCmp s t = ordB (sl s) (sl t) := sc_ob _ _

/-- what a node's parts are, as entries -/
def ents (ps : List Pv) : List Ent := ps.map fun p => (sl p.1, p.2.1)
/-- keys rise -/
def Srt (l : List Ent) : Prop := l.Pairwise fun a b => klt a.1 b.1
theorem ePlN_at (k : List Nat) : ∀ (l : List Ent) (s i : Nat), (∀ j, j < i → ∀ e, l[j]? = some e → klt e.1 k) → i ≤ l.length → (∀ e, l[i]? = some e → ¬ klt e.1 k) →
    ePlN l k s = (s + i, match l[i]? with | some e => decide (ordB e.1 k = 0) | none => false)
  | [], s, i, _, h2, _ => by
    have : i = 0 := by simpa using h2
    subst this
    rfl
  | x :: l, s, 0, _, _, h3 => by
    unfold ePlN
    rw [if_pos (not_klt.2 (h3 x rfl))]
    rfl
  | x :: l, s, i + 1, h1, h2, h3 => by
    unfold ePlN
    have := h1 0 (by omega) x rfl
    unfold klt at this
    rw [if_neg (by omega), ePlN_at k l (s + 1) i (fun j hj e he => h1 (j + 1) (by omega) e he) (by simpa using h2) (fun e he => h3 e he)]
    rw [List.getElem?_cons_succ, show s + 1 + i = s + (i + 1) by omega]
theorem ePl_at {k : List Nat} {l : List Ent} {i : Nat} (h1 : ∀ j, j < i → ∀ e, l[j]? = some e → klt e.1 k) (h2 : i ≤ l.length) (h3 : ∀ e, l[i]? = some e → ¬ klt e.1 k) :
    ePl l k = (i, match l[i]? with | some e => decide (ordB e.1 k = 0) | none => false) := by
  have := ePlN_at k l 0 i h1 h2 h3
  rw [Nat.zero_add] at this
  exact this

set_option maxHeartbeats 1000000 in
theorem cmp1_any (a b : ByteArray) (n : Int) (k : Option Nat) (w : World) :
    Calls Tryd.prog 122 #[.agg #[.string a, .int .i64 n, kp k], .string b] w fun e w' => e = .returned (.int .i64 (ordB (sl a) (sl b))) ∧ Below w.heap.size w w' := by
  have h := scmp_ob a b
  generalize ordB (sl a) (sl b) = z at *
  have H := Lib.hid h
  clear h
  go_enter Tryd.func122, Tryd.ntmps122
  go_wp2_with (go_at_call 123; refine (strcmp_any _ _ _).mono ?_; rintro e w' ⟨rfl, rfl⟩)
  go_ret
  exact ⟨ret_i H.out, (Below.refl _ _).alloc (Nat.le_refl _) _⟩

/-- a node in memory -/
structure NdAt (B : Nat) (w : World) (g : Nat) (v : Value) (ps : List Pv) : Prop where
  hd : w.heap[g]? = some (.cells #[v] 124 (0, 0))
  own : OwP w B v ps
  bg : B ≤ g
theorem NdAt.cell {B : Nat} {w : World} {g : Nat} {v : Value} {ps : List Pv} (h : NdAt B w g v ps) : w.cell? ⟨g, 0, none⟩ = some v ∧ w.frozen? ⟨g, 0, none⟩ = false := ⟨by rw [cell_of_block h.hd]; rfl, unfrozen_of_block h.hd 0⟩
theorem NdAt.lt {B : Nat} {w : World} {g : Nat} {v : Value} {ps : List Pv} (h : NdAt B w g v ps) : g < w.heap.size := (Array.getElem?_eq_some_iff.1 h.hd).1
theorem NdAt.ne {B : Nat} {w : World} {g : Nat} {v : Value} {ps : List Pv} (h : NdAt B w g v ps) : v.ownBlock ≠ some g := own_ne h.own h.hd (by decide)
theorem NdAt.step {B : Nat} {w w1 : World} {g : Nat} {v : Value} {ps : List Pv} {F : Bl} (h : NdAt B w g v ps) (hf : Frm F w w1) (h1 : ¬ F g) (h2 : ∀ k, v.ownBlock = some k → ¬ F k) : NdAt B w1 g v ps :=
  ⟨(hf.heap h.lt h1).trans h.hd, hf.owP h.own h2, h.bg⟩
theorem NdAt.below {B : Nat} {w w1 : World} {g : Nat} {v : Value} {ps : List Pv} (h : NdAt B w g v ps) (hb : Below w.heap.size w w1) : NdAt B w1 g v ps :=
  h.step (Frm.of_below (F := fun _ => False) hb) (fun h => h) (fun _ _ h => h)
theorem NdAt.form {B : Nat} {w : World} {g : Nat} {v : Value} {ps : List Pv} (h : NdAt B w g v ps) : ∃ a cap, v = .slice a ps.length cap ∧ ps.length ≤ cap := by
  rcases h.own.cases with ⟨rfl, rfl⟩ | ⟨g', cap, cur, rfl, hb, hg, hn, hc, hs, ht⟩
  · exact ⟨none, 0, rfl, Nat.le_refl _⟩
  · exact ⟨_, cap, rfl, hn⟩

set_option maxHeartbeats 1000000 in
theorem isleaf_nil (B : Nat) (w : World) (g : Nat) (v : Value) (h : NdAt B w g v []) :
    Calls Tryd.prog 67 #[.pointer (some ⟨g, 0, none⟩)] w fun e w' => e = .returned (.bool true) ∧ w = w' := by
  obtain ⟨c0, -⟩ := h.cell
  obtain ⟨a, cap, rfl, -⟩ := h.form
  clear h
  go_enter Tryd.func67, Tryd.ntmps67
  go_wp2
  go_ret
  exact ⟨rfl, rfl⟩
set_option maxHeartbeats 1000000 in
theorem isleaf_cons (B : Nat) (w : World) (g : Nat) (v : Value) (p : Pv) (ps : List Pv) (h : NdAt B w g v (p :: ps)) (hn : ps.length ≤ 4294967296) :
    Calls Tryd.prog 67 #[.pointer (some ⟨g, 0, none⟩)] w fun e w' => e = .returned (.bool p.2.2.isNone) ∧ w = w' := by
  obtain ⟨c0, -⟩ := h.cell
  obtain ⟨gb, cap, rfl, h1, h2, d0, d1, d2, d3⟩ := h.own.at (i := 0) (p := p) rfl
  obtain ⟨n, en⟩ : ∃ n, (p :: ps).length = n + 1 := ⟨ps.length, rfl⟩
  rw [en] at c0 h1
  have hnn : n ≤ 4294967296 := by simp at en; omega
  obtain ⟨pa, pb, pc⟩ := p
  clear h en d0 d1 d3
  dsimp only at d2 ⊢
  cases pc with
  | none =>
    simp only [kp, Option.map_none] at d2
    go_enter Tryd.func67, Tryd.ntmps67
    go_wp2
    go_ret
    exact ⟨rfl, rfl⟩
  | some z =>
    simp only [kp, Option.map_some] at d2
    go_enter Tryd.func67, Tryd.ntmps67
    go_wp2
    go_ret
    exact ⟨rfl, rfl⟩

set_option maxHeartbeats 1000000 in
set_option maxRecDepth 100000 in
theorem search_any (B : Nat) (w : World) (v : Value) (ps : List Pv) (hown : OwP w B v ps) (hs : Srt (ents ps)) (hn : ps.length ≤ 4294967296) (s : ByteArray) :
    Calls Tryd.prog 121 #[v, .string s, .func (.func 122) #[] #[]] w fun e w' =>
      e = .returned (.tuple #[.int .i64 ((ePl (ents ps) (sl s)).1 : Nat), .bool (ePl (ents ps) (sl s)).2]) ∧ Below w.heap.size w w' := by
  obtain ⟨T, hT⟩ : ∃ T, ePl (ents ps) (sl s) = T := ⟨_, rfl⟩
  rw [hT]
  obtain ⟨T1, T2⟩ := T
  have HT := Lib.hid hT
  have HO := Lib.hid hown
  have HS := Lib.hid hs
  have hf : ∃ a cap, v = .slice a ps.length cap ∧ ps.length ≤ cap := by
    rcases hown.cases with ⟨rfl, rfl⟩ | ⟨g', cap, cur, rfl, hb, hg, hn, hc, hs, ht⟩
    · exact ⟨none, 0, rfl, Nat.le_refl _⟩
    · exact ⟨_, cap, rfl, hn⟩
  obtain ⟨a, cap, rfl, hcap⟩ := hf
  obtain ⟨n, en⟩ : ∃ n, ps.length = n := ⟨_, rfl⟩
  have EN := Lib.hid en
  have EE := Lib.hid (show (ents ps).length = n by unfold ents; rw [List.length_map]; exact en)
  rw [en] at hn hcap HO ⊢
  clear hT hown hs en
  go_enter Tryd.func121, Tryd.ntmps121
  go_wp2
  go_loopw [9, 10] (fun i j wr => ∃ x y : Nat, i = .int .i64 x ∧ j = .int .i64 y ∧ x ≤ y ∧ y ≤ n ∧ Hid (∀ t, t < x → ∀ e, (ents ps)[t]? = some e → klt e.1 (sl s)) ∧ Hid (∀ t, y ≤ t → ∀ e, (ents ps)[t]? = some e → ¬ klt e.1 (sl s)) ∧ Below w.heap.size w wr) (fun i j _ => (intOf j).toNat - (intOf i).toNat)
  case atStart => exact ⟨0, n, rfl, rfl, Nat.zero_le _, Nat.le_refl _, fun t ht => absurd ht (by omega), (fun t ht e he => by
    rw [List.getElem?_eq_none (by rw [EE.out]; exact ht)] at he; cases he), Below.refl _ _⟩
  case round =>
    obtain ⟨x, y, rfl, rfl, hxy, hyn, HL, HR, hb⟩ := hrel
    by_cases c : x < y
    · have c1 : (x : Int) < (y : Int) := by omega
      have hw1 : IntKind.i64.wrap ((x : Int) + (y : Int)) = (x : Int) + (y : Int) := IntWalk.i64_in _ (by omega)
      have hw2 : IntKind.u64.wrap ((x : Int) + (y : Int)) = (x : Int) + (y : Int) := by rw [IntKind.wrap_u64]; omega
      obtain ⟨m, hm⟩ : ∃ m : Nat, (x + y) / 2 = m := ⟨_, rfl⟩
      have hm1 : ((x : Int) + (y : Int)) / 2 = (m : Int) := by omega
      have hm2 : m < n := by omega
      have hm3 : x ≤ m := by omega
      have hm4 : m < y := by omega
      have hm5 : (m : Int) < (n : Int) := by omega
      have hp : ps[m]? = some (ps[m]'(by rw [EN.out]; exact hm2)) := List.getElem?_eq_getElem _
      generalize ps[m]'(by rw [EN.out]; exact hm2) = p at *
      obtain ⟨g, cap', e1, -, -, d0, d1, d2, d3⟩ := OwP.at (w := wr) (B := B) (v := .slice a n cap) (l := ps) (Frm.owP (Frm.of_below (F := fun _ => False) hb) HO.out (fun _ _ h => h)) hp
      injection e1 with e1 e2 e3
      subst e1
      have he : (ents ps)[m]? = some (sl p.1, p.2.1) := by unfold ents; rw [List.getElem?_map, hp]; rfl
      obtain ⟨pa, pb, pc⟩ := p
      dsimp only at d0 d1 d2 he
      have HC := Lib.hid (fun wx => cmp1_any pa s pb pc wx)
      have HE := Lib.hid he
      have HB := Lib.hid hb
      have HM := Lib.hid hm
      have HW1 := Lib.hid hw2
      clear e2 e3 hp he hb hm d3
      obtain ⟨z, hz⟩ : ∃ z, ordB (sl pa) (sl s) = z := ⟨_, rfl⟩
      rw [hz] at HC
      have HZ := Lib.hid hz
      clear hz
      by_cases q : z < 0
      · go_wp2_with (first | (go_at_call 122; refine (HC.out _).mono ?_; rintro e w1 ⟨rfl, b1⟩; have HB1 := Lib.hid b1; clear b1))
        go_roundw
        case rel => exact ⟨m + 1, y, by go_num, rfl, by omega, hyn, (fun t ht e he => by
          rcases Nat.lt_or_ge t m with h | h
          · have h2 := (List.pairwise_iff_getElem.1 HS.out) t m (by rw [EE.out]; omega) (by rw [EE.out]; omega) h
            obtain ⟨l1, e1⟩ := List.getElem?_eq_some_iff.1 he
            obtain ⟨l2, e2⟩ := List.getElem?_eq_some_iff.1 HE.out
            rw [e1, e2] at h2
            exact klt_trans h2 (by unfold klt; rw [HZ.out]; exact q)
          · obtain rfl : t = m := by omega
            rw [HE.out] at he
            cases he
            unfold klt; rw [HZ.out]; exact q), HR, stepB HB.out HB1.out⟩
        case measure => simp [intOf]; omega
      · have q1 : decide (z < 0) = false := by simpa using q
        go_wp2_with (first | (go_at_call 122; refine (HC.out _).mono ?_; rintro e w1 ⟨rfl, b1⟩; have HB1 := Lib.hid b1; clear b1))
        go_roundw
        case rel => exact ⟨x, m, rfl, by go_num, by omega, by omega, HL, (fun t ht e he => by
          rcases Nat.lt_or_ge m t with h | h
          · have hl := (List.getElem?_eq_some_iff.1 he).1
            have h2 := (List.pairwise_iff_getElem.1 HS.out) m t (by rw [EE.out]; omega) hl h
            obtain ⟨l1, e1⟩ := List.getElem?_eq_some_iff.1 he
            obtain ⟨l2, e2⟩ := List.getElem?_eq_some_iff.1 HE.out
            rw [e1, e2] at h2
            exact fun hk => (show ¬ klt (sl pa) (sl s) by unfold klt; rw [HZ.out]; omega) (klt_trans h2 hk)
          · obtain rfl : t = m := by omega
            rw [HE.out] at he
            cases he
            unfold klt; rw [HZ.out]; omega), stepB HB.out HB1.out⟩
        case measure => simp [intOf]; omega
    · obtain rfl : x = y := by omega
      have hpl := ePl_at HL.out (by rw [EE.out]; exact hyn) (fun e he => HR.out x (Nat.le_refl _) e he)
      rw [HT.out] at hpl
      have HB := Lib.hid hb
      by_cases d : x < n
      · have d9 : (x : Int) < (n : Int) := by omega
        have hp : ps[x]? = some (ps[x]'(by rw [EN.out]; exact d)) := List.getElem?_eq_getElem _
        generalize ps[x]'(by rw [EN.out]; exact d) = p at *
        obtain ⟨g, cap', e1, -, -, d0, d1, d2, d3⟩ := OwP.at (w := wr) (B := B) (v := .slice a n cap) (l := ps) (Frm.owP (Frm.of_below (F := fun _ => False) hb) HO.out (fun _ _ h => h)) hp
        injection e1 with e1 e2 e3
        subst e1
        have he : (ents ps)[x]? = some (sl p.1, p.2.1) := by unfold ents; rw [List.getElem?_map, hp]; rfl
        obtain ⟨pa, pb, pc⟩ := p
        rw [he] at hpl
        dsimp only at d0 d1 d2 hpl
        have HC := Lib.hid (fun wx => cmp1_any pa s pb pc wx)
        injection hpl with h1 h2
        subst h1
        obtain ⟨z, hz⟩ : ∃ z, ordB (sl pa) (sl s) = z := ⟨_, rfl⟩
        rw [hz] at HC h2
        have H2 := Lib.hid h2
        clear e2 e3 hp he hb d3 h2 hz
        go_wp2_with (first | (go_at_call 122; refine (HC.out _).mono ?_; rintro e w1 ⟨rfl, b1⟩; have HB1 := Lib.hid b1; clear b1))
        all_goals
          go_ret2
          refine ⟨?_, stepB HB.out HB1.out⟩
          rw [H2.out]
          first | rfl | simp [*]
      · obtain rfl : x = n := by omega
        rw [List.getElem?_eq_none (by rw [EE.out]; exact Nat.le_refl _)] at hpl
        injection hpl with h1 h2
        subst h1 h2
        clear hb
        go_wp2
        go_ret2
        exact ⟨rfl, HB.out⟩

set_option maxHeartbeats 1000000 in
theorem find_any (B : Nat) (w : World) (g : Nat) (v : Value) (ps : List Pv) (h : NdAt B w g v ps) (hs : Srt (ents ps)) (hn : ps.length ≤ 4294967296) (s : ByteArray) :
    Calls Tryd.prog 94 #[.pointer (some ⟨g, 0, none⟩), .string s] w fun e w' =>
      e = .returned (.tuple #[.int .i64 ((ePl (ents ps) (sl s)).1 : Nat), .bool (ePl (ents ps) (sl s)).2]) ∧ Below w.heap.size w w' := by
  have HS := Lib.hid (search_any B w v ps h.own hs hn s)
  obtain ⟨c0, -⟩ := h.cell
  generalize ePl (ents ps) (sl s) = T at *
  obtain ⟨T1, T2⟩ := T
  clear h hs
  go_enter Tryd.func94, Tryd.ntmps94
  go_wp2_with (first | (go_at_call 121; refine HS.out.mono ?_; rintro e w1 ⟨rfl, b1⟩; have HB1 := Lib.hid b1; clear b1))
  go_ret2
  exact ⟨rfl, HB1.out⟩

/-- the child in which a key belongs -/
def chI (l : List Ent) (k : List Nat) : Int := if (ePl l k).2 then ((ePl l k).1 : Nat) else ((ePl l k).1 : Nat) - 1
set_option maxHeartbeats 1000000 in
theorem child_any (B : Nat) (w : World) (g : Nat) (v : Value) (ps : List Pv) (h : NdAt B w g v ps) (hs : Srt (ents ps)) (hn : ps.length ≤ 4294967296) (s : ByteArray) :
    Calls Tryd.prog 96 #[.pointer (some ⟨g, 0, none⟩), .string s] w fun e w' =>
      e = .returned (.int .i64 (chI (ents ps) (sl s))) ∧ Below w.heap.size w w' := by
  have HS := Lib.hid (find_any B w g v ps h hs hn s)
  have hle := ePl_le (ents ps) (sl s)
  have hl : (ents ps).length = ps.length := by unfold ents; rw [List.length_map]
  unfold chI
  generalize ePl (ents ps) (sl s) = T at *
  obtain ⟨T1, T2⟩ := T
  dsimp only at hle HS ⊢
  rw [hl] at hle
  have hle1 := hle.1
  clear h hs hle hl
  cases T2
  · go_enter Tryd.func96, Tryd.ntmps96
    go_wp2_with (first | (go_at_call 94; refine HS.out.mono ?_; rintro e w1 ⟨rfl, b1⟩; have HB1 := Lib.hid b1; clear b1))
    go_ret
    exact ⟨rfl, HB1.out⟩
  · go_enter Tryd.func96, Tryd.ntmps96
    go_wp2_with (first | (go_at_call 94; refine HS.out.mono ?_; rintro e w1 ⟨rfl, b1⟩; have HB1 := Lib.hid b1; clear b1))
    go_ret
    exact ⟨rfl, HB1.out⟩

end Go.Proofs.YtmmchhlfbhbigaaDoor

namespace Go.Proofs.YtmmchhlfbhbigaaDoor
set_option maxRecDepth 100000
open Go.RowKit Go.Joins Go.ChangeShapes Go.WideShapes
set_option linter.unusedVariables false

theorem infoE : (Tryd.prog.info? 80).map (fun i => (i.zero, i.size, i.bytes)) = some (some (.agg #[.slice none 0 0, .int .i64 0]), 2, 32) := by kernel_rfl
theorem ty_eb : (80 : TypeId) ≠ 5 := by decide
theorem newsE (w : World) (u : Value) (n : Int) : ∀ j x, (ecells [(u, n)])[j]? = some x → (w.alloc (.cells #[u, .int .i64 n] 80)).cell? ((⟨w.heap.size, 0, none⟩ : Addr).add j) = some x :=
  World.news_of_block (cs := #[u, .int .i64 n]) (heap_alloc_new w _)
theorem OwE.alloc {w : World} {base : Nat} {v : Value} {l : List Ev} (h : OwE w base v l) (o : Obj) : OwE (w.alloc o) base v l := ⟨h.1.alloc o, h.2⟩
theorem OwE.below {w w' : World} {base : Nat} {v : Value} {l : List Ev} (h : OwE w base v l) (hb : Below w.heap.size w w') : OwE w' base v l := ⟨rowBelow h.1 hb, h.2⟩
/-- the state of a loop that makes a list of entries -/
structure EnE (W w : World) (B : Nat) (v : Value) (l : List Ev) : Prop where
  own : OwE w B v l
  bel : Below B W w
  sz : B ≤ w.heap.size
theorem EnE.alloc {W w : World} {B : Nat} {v : Value} {l : List Ev} (h : EnE W w B v l) (o : Obj) : EnE W (w.alloc o) B v l := ⟨h.own.alloc o, h.bel.alloc h.sz o, by simp; exact Nat.le_succ_of_le h.sz⟩
theorem EnE.step {W w w' : World} {B : Nat} {v : Value} {l : List Ev} (h : EnE W w B v l) (hb : Below w.heap.size w w') : EnE W w' B v l := ⟨h.own.below hb, h.bel.trans (hb.mono h.sz), Nat.le_trans h.sz hb.size⟩
theorem EnE.push {W w w' : World} {B : Nat} {v v' : Value} {l l' : List Ev} (h : EnE W w B v l) (ho : OwE w' B v' l') (hg : w.grownBy w' v.ownBlock) : EnE W w' B v' l' :=
  ⟨ho, h.bel.grown hg h.sz (fun k hk => (h.own.1.lt k hk).1), Nat.le_trans h.sz hg.size⟩
theorem EnE.made (W w : World) (B : Nat) (hb : Below B W w) (hs : B ≤ w.heap.size) : EnE W (w.alloc (.cells #[] 80)) B (.slice (some ⟨w.heap.size, 0, none⟩) 0 0) [] :=
  ⟨⟨World.ownsRow_made w #[] 0 hs (by decide) rfl, by simp⟩, hb.alloc hs _, by simp; exact Nat.le_succ_of_le hs⟩
/-- a row of bytes stays when entries are put behind -/
theorem OwB.pushE {w w' : World} {B B' : Nat} {u v : Value} {k : List Nat} {l : List Ev} (hu : OwB w B' u k) (ho : OwE w B v l) (hg : w.grownBy w' v.ownBlock) : OwB w' B' u k := by
  refine ⟨hu.1.kept hg ?_, hu.2⟩
  by_cases c : u.ownBlock = none
  · exact .inl c
  · refine .inr (fun e => ?_)
    rcases hv : v.ownBlock with _ | j
    · rw [hv] at e; exact c e
    · exact own_own ho.1 hu.1 ty_eb hv (by rw [e, hv])
theorem OwB.keyAt {w : World} {base : Nat} {u : Value} {k : List Nat} {R : Bl} (h : OwB w base u k) (hl : ∀ x ∈ k, x < 256) (hr : ∀ g, u.ownBlock = some g → R g) : KeyAt w R u k := by
  obtain ⟨g, cap, rfl, h1, h2⟩ := h.isB hl
  exact ⟨_, g, 0, cap, rfl, .inr ⟨rfl, hr g rfl⟩, h1⟩

/-- the list with an entry more, if its key is not there -/
def ePut (l : List Ent) (k : List Nat) (id : Int) : List Ent := if (ePl l k).2 then l else l.take (ePl l k).1 ++ [(k, id)] ++ l.drop (ePl l k).1
/-- the list without the entry of a key -/
def eDel (l : List Ent) (k : List Nat) : List Ent := if (ePl l k).2 then l.take (ePl l k).1 ++ l.drop ((ePl l k).1 + 1) else l

theorem put_end {B : Nat} {w wf : World} {R : Bl} {v v' U : Value} {L : List Ev} {l : List Ent} {k : List Nat} {id : Int} {j : Nat} (hB : B ≤ w.heap.size) (h : MEx B wf R v L l) (hlt : ∀ x ∈ k, x < 256)
    (hen : EnE w wf w.heap.size v' (L.take j ++ [(U, id)] ++ L.drop j)) (hu : OwB wf w.heap.size U k) :
    MEx B wf (fun b => R b ∨ U.ownBlock = some b ∨ v'.ownBlock = some b) v' (L.take j ++ [(U, id)] ++ L.drop j) (l.take j ++ [(k, id)] ++ l.drop j) ∧ New w R (fun b => R b ∨ U.ownBlock = some b ∨ v'.ownBlock = some b) := by
  refine ⟨⟨⟨ownsRow_le hen.own.1 hB, hen.own.2⟩, ?_, fun b hb => .inr (.inr hb), ?_⟩, ?_⟩
  · exact ((h.ents.mono (fun b hb => .inl hb)).take j |>.app (EntsAt.one id (hu.keyAt hlt (fun b hb => .inr (.inl hb))))).app ((h.ents.mono (fun b hb => .inl hb)).drop j)
  · intro b hb
    rcases hb with hb | hb | hb
    · exact h.rb b hb
    · have := hu.lt b hb; exact ⟨by omega, this.2⟩
    · have := hen.own.1.lt b hb; exact ⟨by omega, this.2⟩
  · intro b hb
    rcases hb with hb | hb | hb
    · exact .inl hb
    · exact .inr (hu.lt b hb).1
    · exact .inr (hen.own.1.lt b hb).1
theorem take_drop_next {α : Type} {L : List α} {q j : Nat} {x : α} (h : L[q]? = some x) (hj : j ≤ q) : (L.take (q + 1)).drop j = (L.take q).drop j ++ [x] := by
  have hq : q < L.length := (List.getElem?_eq_some_iff.1 h).1
  rw [List.take_add_one, h]
  exact List.drop_append_of_le_length (by rw [List.length_take]; omega)

end Go.Proofs.YtmmchhlfbhbigaaDoor

namespace Go.Proofs.YtmmchhlfbhbigaaDoor
set_option maxRecDepth 100000
open Go.RowKit Go.Joins Go.ChangeShapes Go.WideShapes
set_option linter.unusedVariables false

def del {α : Type} (L : List α) (a q : Nat) : List α := (L.take q).take a ++ (L.take q).drop (a + 1)
theorem del_next {α : Type} {L : List α} {q a : Nat} {x : α} (h : L[q]? = some x) (hn : q ≠ a) : del L a (q + 1) = del L a q ++ [x] := by
  have hq : q < L.length := (List.getElem?_eq_some_iff.1 h).1
  have e : L.take (q + 1) = L.take q ++ [x] := by rw [List.take_add_one, h]; rfl
  have hl : (L.take q).length = q := by rw [List.length_take]; omega
  unfold del
  rw [e]
  generalize L.take q = T at *
  by_cases c : q < a
  · rw [List.take_of_length_le (by rw [List.length_append, hl, List.length_singleton]; omega), List.drop_eq_nil_of_le (by rw [List.length_append, hl, List.length_singleton]; omega), List.take_of_length_le (by omega), List.drop_eq_nil_of_le (by omega), List.append_nil, List.append_nil]
  · rw [List.take_append_of_le_length (by omega), List.drop_append_of_le_length (by omega), List.append_assoc]
theorem del_skip {α : Type} {L : List α} {q : Nat} {x : α} (h : L[q]? = some x) : del L q (q + 1) = del L q q := by
  have hq : q < L.length := (List.getElem?_eq_some_iff.1 h).1
  have e : L.take (q + 1) = L.take q ++ [x] := by rw [List.take_add_one, h]; rfl
  have hl : (L.take q).length = q := by rw [List.length_take]; omega
  unfold del
  rw [e]
  generalize L.take q = T at *
  rw [List.take_append_of_le_length (by omega), List.drop_eq_nil_of_le (by rw [List.length_append, hl, List.length_singleton]; omega), List.drop_eq_nil_of_le (by omega)]
theorem del_len {α : Type} (L : List α) (a q : Nat) : (del L a q).length ≤ q := by
  unfold del
  rw [List.length_append, List.length_take, List.length_drop, List.length_take]
  omega
theorem del_end {α : Type} (L : List α) (a q : Nat) (h : L.length ≤ q) : del L a q = L.take a ++ L.drop (a + 1) := by
  unfold del
  rw [List.take_of_length_le (i := q) h]
theorem drop_end {B : Nat} {w wf : World} {R : Bl} {v v' : Value} {L : List Ev} {l : List Ent} {j : Nat} (hB : B ≤ w.heap.size) (h : MEx B wf R v L l)
    (hen : EnE w wf w.heap.size v' (L.take j ++ L.drop (j + 1))) :
    MEx B wf (fun b => R b ∨ v'.ownBlock = some b) v' (L.take j ++ L.drop (j + 1)) (l.take j ++ l.drop (j + 1)) ∧ New w R (fun b => R b ∨ v'.ownBlock = some b) := by
  refine ⟨⟨⟨ownsRow_le hen.own.1 hB, hen.own.2⟩, ?_, fun b hb => .inr hb, ?_⟩, ?_⟩
  · exact ((h.ents.mono (fun b hb => .inl hb)).take j).app ((h.ents.mono (fun b hb => .inl hb)).drop (j + 1))
  · intro b hb
    rcases hb with hb | hb
    · exact h.rb b hb
    · have := hen.own.1.lt b hb; exact ⟨by omega, this.2⟩
  · intro b hb
    rcases hb with hb | hb
    · exact .inl hb
    · exact .inr (hen.own.1.lt b hb).1

end Go.Proofs.YtmmchhlfbhbigaaDoor
