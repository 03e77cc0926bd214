/-
  Package keys over the translation: a number's and a text's bytes behind a key (appendNumber, appendText).
  Conditions: the key is the call's own; it and the text are not too long.
-/
import Derived.Test.YtpknoclnmhomiaaKs1
import Derived.Test.YtpknoclnmhomiaaKp
namespace Go.Proofs.Ytpknoclnmhomiaa
open Go.RowKit Go.Joins Go.ChangeShapes Go.WideShapes
set_option linter.unusedVariables false

/-- append onto a slice of bytes of the call's own, nil perhaps -/
theorem wp_pushN {ops : Array Oper} {rest : List Oper} {o : Oper} {a : Act} {w : World} {Q : Exit → Act → World → Prop} (hgd : o.guard = none) (s x : Operand)
    (ho : o.op = .call { callee := .builtin .append, args := #[s, x], argTypes := #[25, 25] })
    (base : Nat) (v : Value) (l : List Nat) (hs : a.eval s = v) (hown : w.ownsRow base 5 1 v l.length (bcells l)) (ad : Addr) (m c : Nat) (r : List Nat) (hx : a.eval x = .slice (some ad) m c) (hm : r.length = m) (hm0 : m ≠ 0)
    (hnews : ∀ j u, (bcells r)[j]? = some u → w.cell? (ad.add j) = some u) (hsz : l.length + m ≤ 70368744177664) (hbase : base ≤ w.heap.size)
    (h : ∀ v' w', OwB w' base v' (l ++ r) → w.grownBy w' v.ownBlock → wpList Try.prog ops Q rest (a.put o.dst v') w') : wpList Try.prog ops Q (o :: rest) a w := by
  obtain ⟨i0, hi, hz0, hz1, hz2⟩ := info_parts infoB
  refine wpList_append_own w hgd s x _ ho base 5 i0 _ 1 1 Try.underlying25 hi hz0 hz1 hz2 rfl (by decide) v l.length (bcells l) hs hown ad m c (bcells r) hx (by rw [bcells_length, hm, Nat.mul_one]) hnews (bcells_one r) (by unfold maxLen; omega) (by omega) hbase ?_
  intro v' w' h1 h2 h3
  refine h v' w' ⟨?_, fun e => hm0 (h3.1 e).2⟩ h2
  rw [bcells_app, List.length_append, hm]
  exact h1

/-- the state of a loop that writes bytes, as En; nil perhaps -/
structure Eo (W w : World) (B : Nat) (v : Value) (l : List Nat) : Prop where
  own : w.ownsRow B 5 1 v l.length (bcells l)
  bel : Below B W w
  sz : B ≤ w.heap.size
theorem En.eo {W w : World} {B : Nat} {v : Value} {l : List Nat} (h : En W w B v l) : Eo W w B v l := ⟨h.own.1, h.bel, h.sz⟩
theorem Eo.alloc {W w : World} {B : Nat} {v : Value} {l : List Nat} (h : Eo W w B v l) (o : Obj) : Eo W (w.alloc o) B v l := ⟨h.own.alloc o, h.bel.alloc h.sz o, by simp; exact Nat.le_succ_of_le h.sz⟩
theorem Eo.step {W w w' : World} {B : Nat} {v : Value} {l : List Nat} (h : Eo W w B v l) (hb : Below w.heap.size w w') : Eo W w' B v l := ⟨rowBelow h.own hb, h.bel.trans (hb.mono h.sz), Nat.le_trans h.sz hb.size⟩
theorem Eo.drew {W w : World} {B : Nat} {v : Value} {l : List Nat} (h : Eo W w B v l) : Eo W w.drew B v l := h.step (Below.refl _ _).drew
theorem Eo.push {W w w' : World} {B : Nat} {v v' : Value} {l l' : List Nat} (h : Eo W w B v l) (ho : OwB w' B v' l') (hg : w.grownBy w' v.ownBlock) : En W w' B v' l' :=
  ⟨ho, h.bel.grown hg h.sz (fun k hk => (h.own.lt k hk).1), Nat.le_trans h.sz hg.size⟩
theorem Eo.nil (w : World) : Eo w w w.heap.size (.slice none 0 0) [] := ⟨World.ownsRow_nil w _ _ 1, Below.refl _ _, Nat.le_refl _⟩
theorem Eo.outB {W w : World} {B : Nat} {v : Value} {l : List Nat} (h : Eo W w B v l) : OutB w B v l := by
  by_cases c : v = .slice none 0 0
  · left
    refine ⟨c, ?_⟩
    subst c
    rcases h.own.2 with ⟨_, e⟩ | ⟨g, cap, cur, e, _⟩
    · exact List.length_eq_zero_iff.1 e
    · cases e
  · exact .inr ⟨h.own, c⟩
theorem BoxV.grownO {w w' : World} {base g : Nat} {k n : Int} {s : ByteArray} {v : Value} {l : List Nat} (h : BoxV w g k n s) (ho : w.ownsRow base 5 1 v l.length (bcells l)) (hg : w.grownBy w' v.ownBlock) : BoxV w' g k n s :=
  (hg.block g h.lt (fun e => own_ne ho h ty_ne e.symm)).trans h

set_option maxHeartbeats 2000000 in
theorem appnum_any (W : World) (B : Nat) (v : Value) (l : List Nat) (hl : l.length ≤ 35184372088832) (u : Nat) (hu : u < 18446744073709551616) (w : World) (h : Eo W w B v l) :
    Calls Try.prog 35 #[v, .int .u64 u] w fun e w' => ∃ v', e = .returned v' ∧ En W w' B v' (l ++ be8 u) := by
  generalize hP : (fun (e : Ending) (w' : World) => ∃ v', e = .returned v' ∧ En W w' B v' (l ++ be8 u)) = P
  have hpost : ∀ (v' : Value) (w' : World), Eo W w' B v' (l ++ be8 u) → v' ≠ .slice none 0 0 → P (.returned v') w' := by
    intro v' w' h h2; rw [← hP]; exact ⟨v', rfl, ⟨h.own, h2⟩, h.bel, h.sz⟩
  have HP := Lib.hid hpost
  have HE0 := Lib.hid h
  have HU := Lib.hid hu
  clear hpost hP h hu
  go_enter Try.func35, Try.ntmps35
  go_wp2
  go_loopw [0, 5] (fun x i wr => ∃ j : Nat, j ≤ 8 ∧ i = .int .i64 (56 - 8 * (j : Int)) ∧ Eo W wr B x (l ++ (be8 u).take j) ∧ Hid (j ≠ 0 → x ≠ .slice none 0 0)) (fun _ i _ => (intOf i + 8).toNat)
  case atStart => exact ⟨0, by omega, rfl, by simpa using HE0.out, fun h => absurd rfl h⟩
  case round =>
    obtain ⟨j, hj, rfl, hen, HNN⟩ := hrel
    have hc : j = 0 ∨ j = 1 ∨ j = 2 ∨ j = 3 ∨ j = 4 ∨ j = 5 ∨ j = 6 ∨ j = 7 ∨ j = 8 := by omega
    have HE := Lib.hid hen
    clear hen hj
    rcases hc with rfl | rfl | rfl | rfl | rfl | rfl | rfl | rfl | rfl
    · have hb : (u : Int) / 2 ^ 56 = ((u / 2 ^ 56 : Nat) : Int) := by omega
      have hz : IntKind.u8.wrap ((u : Int) / 72057594037927936) = ((u / 72057594037927936 % 256 : Nat) : Int) := by rw [IntKind.wrap_u8]; omega
      have hz2 : IntKind.u8.wrap ((u : Int) / 2 ^ 56) = ((u / 72057594037927936 % 256 : Nat) : Int) := by rw [IntKind.wrap_u8]; omega
      have hz3 : IntKind.u8.wrap ((u / 72057594037927936 : Nat) : Int) = ((u / 72057594037927936 % 256 : Nat) : Int) := by rw [IntKind.wrap_u8]; omega
      go_wp2_with (at_builtin; refine wp_pushN rfl _ _ rfl B _ _ rfl (HE.out.own.alloc _) ⟨wr.heap.size, 0, none⟩ 1 1 [u / 72057594037927936 % 256] rfl rfl (by decide) (news1' wr _ _ (by first | assumption | (simp [*]; done) | omega | (simp only [IntKind.wrap_u8]; omega))) (by simp [be8]; omega) (HE.out.alloc _).sz ?_; intro v' w1 hown1 hgrow)
      have HE2 : En W w1 B v' (l ++ (be8 u).take 1) := by
        have := (HE.out.alloc _).push hown1 hgrow
        rw [List.append_assoc] at this
        exact this
      go_roundw
      case rel => exact ⟨1, by omega, by first | rfl | go_num, HE2.eo, fun _ => HE2.own.2⟩
      case measure => simp [intOf]
    · have hb : (u : Int) / 2 ^ 48 = ((u / 2 ^ 48 : Nat) : Int) := by omega
      have hz : IntKind.u8.wrap ((u : Int) / 281474976710656) = ((u / 281474976710656 % 256 : Nat) : Int) := by rw [IntKind.wrap_u8]; omega
      have hz2 : IntKind.u8.wrap ((u : Int) / 2 ^ 48) = ((u / 281474976710656 % 256 : Nat) : Int) := by rw [IntKind.wrap_u8]; omega
      have hz3 : IntKind.u8.wrap ((u / 281474976710656 : Nat) : Int) = ((u / 281474976710656 % 256 : Nat) : Int) := by rw [IntKind.wrap_u8]; omega
      go_wp2_with (at_builtin; refine wp_pushN rfl _ _ rfl B _ _ rfl (HE.out.own.alloc _) ⟨wr.heap.size, 0, none⟩ 1 1 [u / 281474976710656 % 256] rfl rfl (by decide) (news1' wr _ _ (by first | assumption | (simp [*]; done) | omega | (simp only [IntKind.wrap_u8]; omega))) (by simp [be8]; omega) (HE.out.alloc _).sz ?_; intro v' w1 hown1 hgrow)
      have HE2 : En W w1 B v' (l ++ (be8 u).take 2) := by
        have := (HE.out.alloc _).push hown1 hgrow
        rw [List.append_assoc] at this
        exact this
      go_roundw
      case rel => exact ⟨2, by omega, by first | rfl | go_num, HE2.eo, fun _ => HE2.own.2⟩
      case measure => simp [intOf]
    · have hb : (u : Int) / 2 ^ 40 = ((u / 2 ^ 40 : Nat) : Int) := by omega
      have hz : IntKind.u8.wrap ((u : Int) / 1099511627776) = ((u / 1099511627776 % 256 : Nat) : Int) := by rw [IntKind.wrap_u8]; omega
      have hz2 : IntKind.u8.wrap ((u : Int) / 2 ^ 40) = ((u / 1099511627776 % 256 : Nat) : Int) := by rw [IntKind.wrap_u8]; omega
      have hz3 : IntKind.u8.wrap ((u / 1099511627776 : Nat) : Int) = ((u / 1099511627776 % 256 : Nat) : Int) := by rw [IntKind.wrap_u8]; omega
      go_wp2_with (at_builtin; refine wp_pushN rfl _ _ rfl B _ _ rfl (HE.out.own.alloc _) ⟨wr.heap.size, 0, none⟩ 1 1 [u / 1099511627776 % 256] rfl rfl (by decide) (news1' wr _ _ (by first | assumption | (simp [*]; done) | omega | (simp only [IntKind.wrap_u8]; omega))) (by simp [be8]; omega) (HE.out.alloc _).sz ?_; intro v' w1 hown1 hgrow)
      have HE2 : En W w1 B v' (l ++ (be8 u).take 3) := by
        have := (HE.out.alloc _).push hown1 hgrow
        rw [List.append_assoc] at this
        exact this
      go_roundw
      case rel => exact ⟨3, by omega, by first | rfl | go_num, HE2.eo, fun _ => HE2.own.2⟩
      case measure => simp [intOf]
    · have hb : (u : Int) / 2 ^ 32 = ((u / 2 ^ 32 : Nat) : Int) := by omega
      have hz : IntKind.u8.wrap ((u : Int) / 4294967296) = ((u / 4294967296 % 256 : Nat) : Int) := by rw [IntKind.wrap_u8]; omega
      have hz2 : IntKind.u8.wrap ((u : Int) / 2 ^ 32) = ((u / 4294967296 % 256 : Nat) : Int) := by rw [IntKind.wrap_u8]; omega
      have hz3 : IntKind.u8.wrap ((u / 4294967296 : Nat) : Int) = ((u / 4294967296 % 256 : Nat) : Int) := by rw [IntKind.wrap_u8]; omega
      go_wp2_with (at_builtin; refine wp_pushN rfl _ _ rfl B _ _ rfl (HE.out.own.alloc _) ⟨wr.heap.size, 0, none⟩ 1 1 [u / 4294967296 % 256] rfl rfl (by decide) (news1' wr _ _ (by first | assumption | (simp [*]; done) | omega | (simp only [IntKind.wrap_u8]; omega))) (by simp [be8]; omega) (HE.out.alloc _).sz ?_; intro v' w1 hown1 hgrow)
      have HE2 : En W w1 B v' (l ++ (be8 u).take 4) := by
        have := (HE.out.alloc _).push hown1 hgrow
        rw [List.append_assoc] at this
        exact this
      go_roundw
      case rel => exact ⟨4, by omega, by first | rfl | go_num, HE2.eo, fun _ => HE2.own.2⟩
      case measure => simp [intOf]
    · have hb : (u : Int) / 2 ^ 24 = ((u / 2 ^ 24 : Nat) : Int) := by omega
      have hz : IntKind.u8.wrap ((u : Int) / 16777216) = ((u / 16777216 % 256 : Nat) : Int) := by rw [IntKind.wrap_u8]; omega
      have hz2 : IntKind.u8.wrap ((u : Int) / 2 ^ 24) = ((u / 16777216 % 256 : Nat) : Int) := by rw [IntKind.wrap_u8]; omega
      have hz3 : IntKind.u8.wrap ((u / 16777216 : Nat) : Int) = ((u / 16777216 % 256 : Nat) : Int) := by rw [IntKind.wrap_u8]; omega
      go_wp2_with (at_builtin; refine wp_pushN rfl _ _ rfl B _ _ rfl (HE.out.own.alloc _) ⟨wr.heap.size, 0, none⟩ 1 1 [u / 16777216 % 256] rfl rfl (by decide) (news1' wr _ _ (by first | assumption | (simp [*]; done) | omega | (simp only [IntKind.wrap_u8]; omega))) (by simp [be8]; omega) (HE.out.alloc _).sz ?_; intro v' w1 hown1 hgrow)
      have HE2 : En W w1 B v' (l ++ (be8 u).take 5) := by
        have := (HE.out.alloc _).push hown1 hgrow
        rw [List.append_assoc] at this
        exact this
      go_roundw
      case rel => exact ⟨5, by omega, by first | rfl | go_num, HE2.eo, fun _ => HE2.own.2⟩
      case measure => simp [intOf]
    · have hb : (u : Int) / 2 ^ 16 = ((u / 2 ^ 16 : Nat) : Int) := by omega
      have hz : IntKind.u8.wrap ((u : Int) / 65536) = ((u / 65536 % 256 : Nat) : Int) := by rw [IntKind.wrap_u8]; omega
      have hz2 : IntKind.u8.wrap ((u : Int) / 2 ^ 16) = ((u / 65536 % 256 : Nat) : Int) := by rw [IntKind.wrap_u8]; omega
      have hz3 : IntKind.u8.wrap ((u / 65536 : Nat) : Int) = ((u / 65536 % 256 : Nat) : Int) := by rw [IntKind.wrap_u8]; omega
      go_wp2_with (at_builtin; refine wp_pushN rfl _ _ rfl B _ _ rfl (HE.out.own.alloc _) ⟨wr.heap.size, 0, none⟩ 1 1 [u / 65536 % 256] rfl rfl (by decide) (news1' wr _ _ (by first | assumption | (simp [*]; done) | omega | (simp only [IntKind.wrap_u8]; omega))) (by simp [be8]; omega) (HE.out.alloc _).sz ?_; intro v' w1 hown1 hgrow)
      have HE2 : En W w1 B v' (l ++ (be8 u).take 6) := by
        have := (HE.out.alloc _).push hown1 hgrow
        rw [List.append_assoc] at this
        exact this
      go_roundw
      case rel => exact ⟨6, by omega, by first | rfl | go_num, HE2.eo, fun _ => HE2.own.2⟩
      case measure => simp [intOf]
    · have hb : (u : Int) / 2 ^ 8 = ((u / 2 ^ 8 : Nat) : Int) := by omega
      have hz : IntKind.u8.wrap ((u : Int) / 256) = ((u / 256 % 256 : Nat) : Int) := by rw [IntKind.wrap_u8]; omega
      have hz2 : IntKind.u8.wrap ((u : Int) / 2 ^ 8) = ((u / 256 % 256 : Nat) : Int) := by rw [IntKind.wrap_u8]; omega
      have hz3 : IntKind.u8.wrap ((u / 256 : Nat) : Int) = ((u / 256 % 256 : Nat) : Int) := by rw [IntKind.wrap_u8]; omega
      go_wp2_with (at_builtin; refine wp_pushN rfl _ _ rfl B _ _ rfl (HE.out.own.alloc _) ⟨wr.heap.size, 0, none⟩ 1 1 [u / 256 % 256] rfl rfl (by decide) (news1' wr _ _ (by first | assumption | (simp [*]; done) | omega | (simp only [IntKind.wrap_u8]; omega))) (by simp [be8]; omega) (HE.out.alloc _).sz ?_; intro v' w1 hown1 hgrow)
      have HE2 : En W w1 B v' (l ++ (be8 u).take 7) := by
        have := (HE.out.alloc _).push hown1 hgrow
        rw [List.append_assoc] at this
        exact this
      go_roundw
      case rel => exact ⟨7, by omega, by first | rfl | go_num, HE2.eo, fun _ => HE2.own.2⟩
      case measure => simp [intOf]
    · have hb : (u : Int) / 2 ^ 0 = ((u / 2 ^ 0 : Nat) : Int) := by omega
      have hz : IntKind.u8.wrap ((u : Int) / 1) = ((u % 256 : Nat) : Int) := by rw [IntKind.wrap_u8]; omega
      have hz2 : IntKind.u8.wrap ((u : Int) / 2 ^ 0) = ((u % 256 : Nat) : Int) := by rw [IntKind.wrap_u8]; omega
      have hz3 : IntKind.u8.wrap ((u / 1 : Nat) : Int) = ((u % 256 : Nat) : Int) := by rw [IntKind.wrap_u8]; omega
      go_wp2_with (at_builtin; refine wp_pushN rfl _ _ rfl B _ _ rfl (HE.out.own.alloc _) ⟨wr.heap.size, 0, none⟩ 1 1 [u % 256] rfl rfl (by decide) (news1' wr _ _ (by first | assumption | (simp [*]; done) | omega | (simp only [IntKind.wrap_u8]; omega))) (by simp [be8]; omega) (HE.out.alloc _).sz ?_; intro v' w1 hown1 hgrow)
      have HE2 : En W w1 B v' (l ++ (be8 u).take 8) := by
        have := (HE.out.alloc _).push hown1 hgrow
        rw [List.append_assoc] at this
        exact this
      go_roundw
      case rel => exact ⟨8, by omega, by first | rfl | go_num, HE2.eo, fun _ => HE2.own.2⟩
      case measure => simp [intOf]
    · go_wp2
      exact HP.out _ _ (by simpa [be8] using HE.out) (HNN.out (by decide))

set_option maxHeartbeats 4000000 in
theorem apptext_any (W : World) (B : Nat) (v : Value) (l : List Nat) (hl : l.length ≤ 35184372088832) (s : ByteArray) (hs : s.size ≤ 1048576) (w : World) (h : Eo W w B v l) :
    Calls Try.prog 38 #[v, .string s] w fun e w' => ∃ v', e = .returned v' ∧ En W w' B v' (l ++ (esc (sl s) ++ [0, 1])) := by
  generalize hP : (fun (e : Ending) (w' : World) => ∃ v', e = .returned v' ∧ En W w' B v' (l ++ (esc (sl s) ++ [0, 1]))) = P
  have hpost : ∀ (v' : Value) (w' : World), En W w' B v' (l ++ esc (sl s) ++ [0, 1]) → P (.returned v') w' := by
    intro v' w' h; rw [← hP]; exact ⟨v', rfl, by rw [← List.append_assoc]; exact h⟩
  have HP := Lib.hid hpost
  have HE0 := Lib.hid h
  have HL := Lib.hid (show ∀ q, (l ++ esc ((sl s).take q)).length ≤ 35184374185984 by
    intro q
    have h1 := esc_le ((sl s).take q)
    rw [List.length_take, sl_length] at h1
    rw [List.length_append]
    omega)
  have hlen : (sl s).length = s.size := sl_length s
  have hs64 : (s.size : Int) ≤ 1048576 := by omega
  clear hpost hP h hl
  go_enter Try.func38, Try.ntmps38
  go_wp2
  go_loopw [0, 8] (fun x i wr => ∃ q : Nat, q ≤ s.size ∧ i = .int .i64 q ∧ Eo W wr B x (l ++ esc ((sl s).take q))) (fun _ i _ => s.size - (intOf i).toNat)
  case atStart => exact ⟨0, by omega, rfl, by simpa [esc] using HE0.out⟩
  case round =>
    obtain ⟨q, hq, rfl, hen⟩ := hrel
    have HEQ := Lib.hid hen
    clear hen
    by_cases hqs : q < s.size
    · have hq1 : (q : Int) < (s.size : Int) := by omega
      have HT := Lib.hid (esc_take s q hqs)
      have HLE := Lib.hid (HL.out q)
      have hlt8 : (s[q]'hqs).toNat < 256 := (s[q]'hqs).toNat_lt
      by_cases hz : (s[q]'hqs).toNat = 0
      · have hz2 : (s[q]'hqs) = 0 := UInt8.toNat_inj.1 hz
        have HZ := Lib.hid hz
        clear hz hlt8
        go_wp2_with (first | (at_builtin; refine wp_pushN rfl _ _ rfl B _ _ rfl (HE5.out.own.1.alloc _) ⟨w5.heap.size, 0, none⟩ 1 1 [255] rfl rfl (by decide) (news1' w5 _ _ (by first | rfl | omega | (simp; done))) (by have h2 := HLE.out; simp only [List.length_append, List.length_cons, List.length_nil] at h2 ⊢; omega) (HE5.out.alloc _).sz ?_; intro vw6 w6 hown hgrow; have HE6 := Lib.hid ((HE5.out.eo.alloc _).push hown hgrow); clear hgrow hown) | (at_builtin; refine wp_pushN rfl _ _ rfl B _ _ rfl (HEQ.out.own.alloc _) ⟨wr.heap.size, 0, none⟩ 1 1 [0] rfl rfl (by decide) (news1' wr _ _ (by first | rfl | omega | (simp; done))) (by have h2 := HLE.out; simp only [List.length_append] at h2 ⊢; omega) (HEQ.out.alloc _).sz ?_; intro vw5 w5 hown hgrow; have HE5 := Lib.hid ((HEQ.out.alloc _).push hown hgrow); clear hgrow hown))
        go_roundw
        case rel => exact ⟨q + 1, by omega, by go_num, by rw [HT.out, if_pos HZ.out, ← List.append_assoc]; simpa using HE6.out.eo⟩
        case measure => simp [intOf]; omega
      · have hz1 : (((s[q]'hqs).toNat : Int) == 0) = false := by simpa using hz
        have hz2 : ((s[q]'hqs) == 0) = false := by simpa using fun e => hz (by rw [e]; rfl)
        have hz3 : ((s[q]'hqs).toNat == 0) = false := by simpa using hz
        have hz4 : ¬ (s[q]'hqs) = 0 := fun e => hz (by rw [e]; rfl)
        have HZ := Lib.hid hz
        clear hlt8
        go_wp2_with (first | (at_builtin; refine wp_pushN rfl _ _ rfl B _ _ rfl (HEQ.out.own.alloc _) ⟨wr.heap.size, 0, none⟩ 1 1 [(s[q]'hqs).toNat] rfl rfl (by decide) (news1' wr _ _ (by first | rfl | omega | (simp; done))) (by have h2 := HLE.out; simp only [List.length_append] at h2 ⊢; omega) (HEQ.out.alloc _).sz ?_; intro vw5 w5 hown hgrow; have HE5 := Lib.hid ((HEQ.out.alloc _).push hown hgrow); clear hgrow hown))
        go_roundw
        case rel => exact ⟨q + 1, by omega, by go_num, by rw [HT.out, if_neg HZ.out, ← List.append_assoc]; exact HE5.out.eo⟩
        case measure => simp [intOf]; omega
    · obtain rfl : q = s.size := by omega
      have HLE := Lib.hid (HL.out s.size)
      rw [← hlen, List.take_length] at HEQ HLE
      go_wp2_with (first | (at_builtin; refine wp_pushN rfl _ _ rfl B _ _ rfl (HEQ.out.own.alloc _) ⟨wr.heap.size, 0, none⟩ 2 2 [0, 1] rfl rfl (by decide) (news2 wr 0 1) (by have h2 := HLE.out; simp only [List.length_append] at h2 ⊢; omega) (HEQ.out.alloc _).sz ?_; intro v7 w7 hown hgrow; have HE7 := Lib.hid ((HEQ.out.alloc _).push hown hgrow); clear hgrow hown))
      exact HP.out _ _ HE7.out

end Go.Proofs.Ytpknoclnmhomiaa
