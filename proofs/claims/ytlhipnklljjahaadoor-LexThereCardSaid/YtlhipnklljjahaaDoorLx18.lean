/-
  slices.Grow, Concat and Clone at bytes (layer 12): contracts over the translation.
  Conditions: the rows lie in memory.
-/
import Derived.Test.YtlhipnklljjahaaDoorLx17
import Derived.Lib.AppendZeros
import Derived.Lib.SliceRun
namespace Go.Proofs.YtlhipnklljjahaaDoor
set_option maxRecDepth 100000
open Go.RowKit Go.Joins Go.ChangeShapes Go.WideShapes
set_option linter.unusedVariables false
set_option linter.unusedSimpArgs false

theorem isB_news {w : World} {b off : Nat} {l : List Nat} (h : IsB w b off l) : ∀ j u, (bcells l)[j]? = some u → w.cell? ((⟨b, off, none⟩ : Addr).add j) = some u := by
  intro j u hj
  have ea : (⟨b, off, none⟩ : Addr).add j = ⟨b, off + j, none⟩ := by unfold Addr.add; split <;> simp_all
  rw [ea]
  unfold bcells at hj
  rw [List.getElem?_map] at hj
  cases hx : l[j]? with
  | none => rw [hx] at hj; cases hj
  | some x =>
    rw [hx] at hj
    injection hj with hj
    rw [← hj]
    exact h.c j x hx
set_option maxHeartbeats 1000000 in
theorem grow_b (n : Nat) (h0 : 0 < n) (hn : n ≤ 8589934592) (w : World) :
    Calls Tryd.prog 38 #[.slice none 0 0, .int .i64 n] w fun e w' => ∃ v, e = .returned v ∧ OwB w' w.heap.size v [] ∧ Below w.heap.size w w' := by
  obtain ⟨i0, hi, hz0, hz1, hz2⟩ := info_parts infoB
  have hr := fun ty => Lib.run_append_nil_zeros (P := Tryd.prog) w 27 3 ty 5 i0 (.int .u8 0) .i64 .i64 Tryd.underlying27 Tryd.underlying3 hi hz0 n h0 (by omega) (by omega) (by rw [hz2]; omega)
  have hge := grownCap_ge w n 0 5
  have hle := grownCap_le_maxLen w n 0 5 (by unfold maxLen; omega)
  have hx : OwB (w.drew.alloc (.cells (Builtin.zeroCells (Value.int .u8 0).cells n ++ Builtin.zeroCells (Value.int .u8 0).cells (grownCap w n 0 5 - n)) 5)) w.heap.size (.slice (some ⟨w.heap.size, 0, none⟩) 0 (grownCap w n 0 5)) [] :=
    ⟨⟨rfl, .inr ⟨w.heap.size, _, _, rfl, Nat.le_refl _, heap_alloc_new w.drew _, Nat.zero_le _, hle, by simp [Builtin.zeroCells, Value.cells]; omega, by simp [bcells]⟩⟩, by simp⟩
  have hb : Below w.heap.size w (w.drew.alloc (.cells (Builtin.zeroCells (Value.int .u8 0).cells n ++ Builtin.zeroCells (Value.int .u8 0).cells (grownCap w n 0 5 - n)) 5)) := (Below.refl _ _).drew.alloc (Nat.le_refl _) _
  generalize hW : w.drew.alloc (.cells (Builtin.zeroCells (Value.int .u8 0).cells n ++ Builtin.zeroCells (Value.int .u8 0).cells (grownCap w n 0 5 - n)) 5) = W at hr hx hb
  generalize grownCap w n 0 5 = C at *
  generalize hg : w.heap.size = g at *
  have HX := Lib.hid (And.intro hx hb)
  have HR := Lib.hid hr
  clear hx hb hr hW hg
  have k1 : (n : Int) ≤ (C : Int) := by omega
  have k2 : decide ((0 : Int) < (n : Int)) = true := by simp; omega
  go_enter Tryd.func38, Tryd.ntmps38
  go_wp2_with (first | (at_builtin; refine Lib.wpList_append_run _ rfl (.tmp 20) (.tmp 21) _ _ rfl _ _ rfl rfl _ _ (HR.out _) ?_))
  go_ret
  exact ⟨_, rfl, HX.out.1, HX.out.2⟩
set_option maxHeartbeats 2000000 in
theorem concat_b {w : World} {h b off c b2 off2 c2 : Nat} {l l2 : List Nat} (h1 : w.cell? ⟨h, 0, none⟩ = some (.slice (some ⟨b, off, none⟩) l.length c)) (h2 : w.cell? ⟨h, 1, none⟩ = some (.slice (some ⟨b2, off2, none⟩) l2.length c2))
    (hA : IsB w b off l) (hB : IsB w b2 off2 l2) (h0 : 0 < l.length) (hl : l.length ≤ 4294967296) (hl2 : l2.length ≤ 4294967296) :
    Calls Tryd.prog 30 #[.slice (some ⟨h, 0, none⟩) 2 2] w fun e w' => ∃ v, e = .returned v ∧ OwB w' w.heap.size v (l ++ l2) ∧ Below w.heap.size w w' := by
  have hhw : h < w.heap.size := Lib.lt_of_cell h1
  obtain ⟨m, hm⟩ : ∃ m, l.length = m := ⟨_, rfl⟩
  obtain ⟨k, hk⟩ : ∃ k, l2.length = k := ⟨_, rfl⟩
  have HM := Lib.hid (And.intro hm hk)
  rw [hm] at h1 hl h0
  rw [hk] at h2 hl2
  have HAB := Lib.hid (And.intro hA hB)
  have HG := Lib.hid (grow_b (m + k) (by omega) (by omega) w)
  clear hA hB hm hk
  go_enter Tryd.func30, Tryd.ntmps30
  go_wp2_with fail
  go_loopw [3, 11] (fun s i wr => w = wr ∧ ((s = .int .i64 0 ∧ i = .int .i64 0) ∨ (s = .int .i64 m ∧ i = .int .i64 1) ∨ (s = .int .i64 ((m : Int) + (k : Int)) ∧ i = .int .i64 2))) (fun _ i _ => 2 - (intOf i).toNat)
  case atStart => exact ⟨rfl, .inl ⟨rfl, rfl⟩⟩
  case round =>
    obtain ⟨rfl, hs⟩ := hrel
    rcases hs with ⟨rfl, rfl⟩ | ⟨rfl, rfl⟩ | ⟨rfl, rfl⟩
    · have e1 : IntKind.i64.wrap (m : Int) = m := by rw [IntKind.wrap_i64]; omega
      go_wp2_with fail
      go_roundw
      case rel => exact ⟨by trivial, .inr (.inl ⟨rfl, rfl⟩)⟩
      case measure => simp [intOf]
    · have e1 : IntKind.i64.wrap ((m : Int) + (k : Int)) = (m : Int) + (k : Int) := by rw [IntKind.wrap_i64]; omega
      have e2 : decide ((m : Int) + (k : Int) < 0) = false := by simp; omega
      go_wp2_with fail
      go_roundw
      case rel => exact ⟨by trivial, .inr (.inr ⟨rfl, rfl⟩)⟩
      case measure => simp [intOf]
    · go_wp2_with (first | (go_at_call 38; refine HG.out.mono ?_; rintro e w1 ⟨v1, rfl, o1, b1⟩; have HO1 := Lib.hid (And.intro o1 b1); clear o1 b1))
      go_loopw [6, 27] (fun v i wr => ∃ L, OwB wr w.heap.size v L ∧ Below w.heap.size w wr ∧ w.heap.size ≤ wr.heap.size ∧ ((L = [] ∧ i = .int .i64 0) ∨ (L = l ∧ i = .int .i64 1) ∨ (L = l ++ l2 ∧ i = .int .i64 2))) (fun _ i _ => 2 - (intOf i).toNat)
      case atStart => exact ⟨[], HO1.out.1, HO1.out.2, HO1.out.2.size, .inl ⟨rfl, rfl⟩⟩
      case round =>
        obtain ⟨L, oL, bL, sL, hs⟩ := hrel
        have d1 : wr.cell? ⟨h, 0, none⟩ = some (.slice (some ⟨b, off, none⟩) m c) := (bL.cell (p := ⟨h, 0, none⟩) hhw).trans h1
        have d2 : wr.cell? ⟨h, 1, none⟩ = some (.slice (some ⟨b2, off2, none⟩) k c2) := (bL.cell (p := ⟨h, 1, none⟩) hhw).trans h2
        have HL := Lib.hid (And.intro oL (And.intro bL sL))
        clear oL bL sL
        rcases hs with ⟨rfl, rfl⟩ | ⟨rfl, rfl⟩ | ⟨rfl, rfl⟩
        · go_wp2_with (first | (at_builtin; refine wp_push rfl _ _ rfl w.heap.size _ _ rfl HL.out.1 ⟨b, off, none⟩ m c l rfl HM.out.1 (isB_news (HAB.out.1.below HL.out.2.1)) (by simp; omega) HL.out.2.2 ?_; intro v2 w2 own2 gr2; have HX := Lib.hid (And.intro own2 (And.intro (HL.out.2.1.grown gr2 HL.out.2.2 (fun k hk => (HL.out.1.lt k hk).1)) gr2.size)); clear own2 gr2))
          go_roundw
          case rel => exact ⟨l, by simpa using HX.out.1, HX.out.2.1, Nat.le_trans HL.out.2.2 HX.out.2.2, .inr (.inl ⟨rfl, rfl⟩)⟩
          case measure => simp [intOf]
        · go_wp2_with (first | (at_builtin; refine wp_push rfl _ _ rfl w.heap.size _ _ rfl HL.out.1 ⟨b2, off2, none⟩ k c2 l2 rfl HM.out.2 (isB_news (HAB.out.2.below HL.out.2.1)) (by have := HM.out.1; omega) HL.out.2.2 ?_; intro v2 w2 own2 gr2; have HX := Lib.hid (And.intro own2 (And.intro (HL.out.2.1.grown gr2 HL.out.2.2 (fun k hk => (HL.out.1.lt k hk).1)) gr2.size)); clear own2 gr2))
          go_roundw
          case rel => exact ⟨_, HX.out.1, HX.out.2.1, Nat.le_trans HL.out.2.2 HX.out.2.2, .inr (.inr ⟨rfl, rfl⟩)⟩
          case measure => simp [intOf]
        · go_wp2_with fail
          go_ret
          exact ⟨_, rfl, HL.out.1, HL.out.2.1⟩
set_option maxHeartbeats 1000000 in
theorem clone_b {w : World} {b off : Nat} (m c : Nat) {l : List Nat} (hm : l.length = m) (hA : IsB w b off l) (hl : m ≤ 4294967296) :
    Calls Tryd.prog 32 #[.slice (some ⟨b, off, none⟩) m c] w fun e w' => ∃ v, e = .returned v ∧ OwB w' w.heap.size v l ∧ Below w.heap.size w w' := by
  obtain ⟨W1, hW1⟩ : ∃ W1, W1 = w.alloc (.cells #[] 5) := ⟨_, rfl⟩
  have hO : OwB W1 w.heap.size (.slice (some ⟨w.heap.size, 0, none⟩) 0 0) [] := by rw [hW1]; exact ⟨World.ownsRow_made w #[] 0 (Nat.le_refl _) (by decide) rfl, by simp⟩
  have hb : Below w.heap.size w W1 := by rw [hW1]; exact (Below.refl _ _).alloc (Nat.le_refl _) _
  have HO := Lib.hid hO
  have HB := Lib.hid hb
  have HN := Lib.hid (isB_news (hA.below hb))
  have HW := Lib.hid hW1
  have HM := Lib.hid hm
  have heq : (binOp .eql 27 (.slice (some ⟨b, off, none⟩) m c) (.slice none 0 0)).run Tryd.prog w = .ok (.bool false) w := Lib.run_eql_slice_nil w _ _ _ _ _ _ _ Tryd.underlying27
  clear hO hb hW1 hm hA
  go_enter Tryd.func32, Tryd.ntmps32
  go_wp2_with (first | (at_builtin; rw [← HW.out]; refine wp_push rfl (.tmp 5) (.tmp 6) rfl w.heap.size (.slice (some ⟨w.heap.size, 0, none⟩) 0 0) [] rfl HO.out ⟨b, off, none⟩ m c l rfl HM.out HN.out (by simp; omega) HB.out.size ?_; intro v1 w1 hown1 hgrow1; have HX := Lib.hid (And.intro hown1 (HB.out.grown hgrow1 HB.out.size (fun k hk => (HO.out.lt k hk).1))); clear hown1 hgrow1))
  go_ret
  exact ⟨_, rfl, by simpa using HX.out.1, HX.out.2⟩

end Go.Proofs.YtlhipnklljjahaaDoor
