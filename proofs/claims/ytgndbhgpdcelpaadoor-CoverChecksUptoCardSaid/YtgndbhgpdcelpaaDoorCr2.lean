/-
  The document's first open of a cursor, and mode of a table (haspref22): contracts over the translation.
  Conditions: the row lies in memory.
-/
import Derived.Test.YtgndbhgpdcelpaaDoorCv18
import Derived.Test.YtgndbhgpdcelpaaDoorMd5
namespace Go.Proofs.YtgndbhgpdcelpaaDoor
set_option maxRecDepth 100000
open Go.RowKit Go.Joins Go.ChangeShapes Go.WideShapes
set_option linter.unusedVariables false
set_option linter.unusedSimpArgs false

theorem rng_cells {w : World} {b o : Nat} {x : Ins} (h : w.rangeAt b o x.enc) : w.cell? ⟨b, o, none⟩ = some (.int .i64 x.op) ∧ w.cell? ⟨b, o + 1, none⟩ = some (.int .i64 x.c) ∧ w.cell? ⟨b, o + 2, none⟩ = some (.int .i64 x.jt) ∧ w.cell? ⟨b, o + 3, none⟩ = some (.int .i64 x.mode) ∧ w.cell? ⟨b, o + 4, none⟩ = some (.int .i64 x.part) ∧ w.cell? ⟨b, o + 5, none⟩ = some (.string x.tab) ∧ w.cell? ⟨b, o + 6, none⟩ = some (.int .i64 x.idx) :=
  ⟨by have := h 0 _ rfl; rwa [Nat.add_zero] at this, h 1 _ rfl, h 2 _ rfl, h 3 _ rfl, h 4 _ rfl, h 5 _ rfl, h 6 _ rfl⟩
set_option maxHeartbeats 4000000 in
theorem opened22 (w : World) (tb : ByteArray) (a : Option Addr) (cap : Nat) (q : List Ins) (h : RowA w a q) (hm : q.length ≤ 1048576) (c : Int) :
    Calls Tryd.prog 20 #[.agg #[.string tb, .slice a q.length cap], .int .i64 c] w fun e w' => e = .returned (.int .i64 (fidx (ocB 2 c) q)) ∧ Below w.heap.size w w' := by
  obtain ⟨R, hR⟩ : ∃ R, fidx (ocB 2 c) q = R := ⟨_, rfl⟩
  have HR := Lib.hid hR
  rw [hR]
  obtain ⟨n, hn⟩ : ∃ n, q.length = n := ⟨_, rfl⟩
  have HN := Lib.hid hn
  rw [hn] at hm ⊢
  obtain ⟨W1, hW1⟩ : ∃ W1, w.alloc (.cells #[.string tb, .slice a n cap] 25) = W1 := ⟨_, rfl⟩
  obtain ⟨HB1, z0, z1, hz, hbx⟩ := ck_box hW1
  have HH := Lib.hid (h.below HB1.out)
  clear hR hn h hz hbx
  go_enter Tryd.func20, Tryd.ntmps20
  go_wp2_with fail
  try rw [hW1]
  clear hW1
  go_loopw [5] (fun i wr => ∃ k : Nat, k ≤ n ∧ i = .int .i64 k ∧ W1 = wr ∧ Hid (∀ j x, j < k → q[j]? = some x → ocB 2 c x = false)) (fun i _ => n - (intOf i).toNat)
  case atStart => exact ⟨0, Nat.zero_le _, rfl, rfl, fun j x hj => absurd hj (by omega)⟩
  case round =>
    obtain ⟨k, hk, rfl, rfl, HK⟩ := hrel
    by_cases cc : k < n
    · have c1 : (k : Int) < (n : Int) := by omega
      obtain ⟨x, hl⟩ : ∃ l, q[k]? = some l := ⟨_, List.getElem?_eq_getElem (by rw [HN.out]; exact cc)⟩
      obtain ⟨gb, off, rfl, -, hra⟩ := RowA.at HH.out hl
      obtain ⟨f0, f1, -, -, -, -, -⟩ := rng_cells hra
      have HL := Lib.hid hl
      clear hl hra
      have hno : ocB 2 c x = false → Hid (∀ j y, j < k + 1 → q[j]? = some y → ocB 2 c y = false) := fun hp j y hj hy => by
        by_cases e : j = k
        · subst e
          rw [HL.out] at hy
          injection hy with hy
          rw [← hy]; exact hp
        · exact HK.out j y (by omega) hy
      have HNO := Lib.hid hno
      clear hno
      cases h1 : x.op == 2 with
      | false =>
        have HK2 := HNO.out (by unfold ocB; rw [h1]; rfl)
        go_wp2_with fail
        go_roundw
        case rel => exact ⟨k + 1, by omega, by go_num, (by first | rfl | trivial), HK2⟩
        case measure => simp [intOf]; omega
      | true =>
        cases h2 : x.c == c with
        | false =>
          have HK2 := HNO.out (by unfold ocB; rw [h1, h2]; rfl)
          go_wp2_with fail
          go_roundw
          case rel => exact ⟨k + 1, by omega, by go_num, (by first | rfl | trivial), HK2⟩
          case measure => simp [intOf]; omega
        | true =>
          have HF := Lib.hid (show R = (k : Nat) by
            rw [← HR.out]
            unfold fidx
            rw [tw_hit (p := ocB 2 c) HK.out HL.out (by unfold ocB; rw [h1, h2]; rfl), List.length_take, HN.out, Nat.min_eq_left (by omega), if_neg (by omega)])
          go_wp2_with fail
          go_ret
          exact ⟨by rw [HF.out]; rfl, HB1.out⟩
    · obtain rfl : k = n := by omega
      have HF := Lib.hid (show R = -1 by
        rw [← HR.out]
        unfold fidx
        rw [tw_all (p := ocB 2 c) (fun j x hj hx => HK.out j x (by rw [← HN.out]; exact hj) hx), if_pos rfl])
      have c1 : decide ((k : Int) < (k : Int)) = false := by simp
      go_wp2_with fail
      go_ret
      exact ⟨by rw [HF.out]; rfl, HB1.out⟩
set_option maxHeartbeats 4000000 in
theorem mode22 (w : World) (tb : ByteArray) (a : Option Addr) (cap : Nat) (q : List Ins) (h : RowA w a q) (hm : q.length ≤ 1048576) (t : ByteArray) :
    Calls Tryd.prog 21 #[.agg #[.string tb, .slice a q.length cap], .string t] w fun e w' => e = .returned (.int .i64 (mdL t q 0)) ∧ Below w.heap.size w w' := by
  obtain ⟨n, hn⟩ : ∃ n, q.length = n := ⟨_, rfl⟩
  have HN := Lib.hid hn
  have HO := Lib.hid (fun (wx : World) (hb : Below w.heap.size w wx) => RowA.below h hb)
  rw [hn] at hm ⊢
  have HF := Lib.hid (show mdL t (q.take n) 0 = mdL t q 0 by rw [← hn, List.take_length])
  obtain ⟨R, hR⟩ : ∃ R, mdL t q 0 = R := ⟨_, rfl⟩
  rw [hR] at HF ⊢
  obtain ⟨W1, hW1⟩ : ∃ W1, w.alloc (.cells #[.string tb, .slice a n cap] 25) = W1 := ⟨_, rfl⟩
  obtain ⟨HB1, z0, z1, hz, hbx⟩ := ck_box hW1
  have HBX := Lib.hid (fun (wx : World) (hb : Below W1.heap.size W1 wx) => hbx.below hb)
  clear hR hn h hz hbx
  go_enter Tryd.func21, Tryd.ntmps21
  go_wp2_with fail
  try rw [hW1]
  clear hW1 z0 z1
  go_loopw [5, 6] (fun m i wr => ∃ k : Nat, k ≤ n ∧ i = .int .i64 k ∧ m = .int .i64 (mdL t (q.take k) 0) ∧ Hid (Below W1.heap.size W1 wr)) (fun _ i _ => n - (intOf i).toNat)
  case atStart => exact ⟨0, Nat.zero_le _, rfl, rfl, Below.refl _ _⟩
  case round =>
    obtain ⟨k, hk, rfl, rfl, HB⟩ := hrel
    obtain ⟨M, hM⟩ : ∃ M, mdL t (q.take k) 0 = M := ⟨_, rfl⟩
    rw [hM]
    have HM := Lib.hid hM
    have y0 : wr.cell? ⟨w.heap.size, 0, none⟩ = some (.string tb) := (HBX.out wr HB.out).cell rfl
    have y1 : wr.cell? ⟨w.heap.size, 1, none⟩ = some (.slice a n cap) := (HBX.out wr HB.out).cell rfl
    have HBW := Lib.hid (HB1.out.trans (HB.out.mono HB1.out.size))
    clear hM
    by_cases c : k < n
    · have c1 : (k : Int) < (n : Int) := by omega
      obtain ⟨x, hl⟩ : ∃ l, q[k]? = some l := ⟨_, List.getElem?_eq_getElem (by rw [HN.out]; exact c)⟩
      obtain ⟨gb, off, rfl, -, hra⟩ := RowA.at (HO.out wr HBW.out) hl
      obtain ⟨f0, -, -, f3, -, f5, -⟩ := rng_cells hra
      have HSN := Lib.hid (mdL_snoc t x (q.take k) 0)
      have HTK := Lib.hid (take_snoc' hl)
      have HJ := Lib.hid (rjoin_any M x.mode wr)
      clear hl hra
      cases hc1 : x.op == 1 with
      | false =>
        have HMN := Lib.hid (show mdL t (q.take (k + 1)) 0 = M by
          rw [HTK.out, HSN.out, HM.out, lkB, hc1]; rfl)
        go_wp2_with fail
        go_roundw
        case rel => exact ⟨k + 1, by omega, by go_num, by rw [HMN.out], HB⟩
        case measure => simp [intOf]; omega
      | true =>
        cases hc2 : x.tab.toList == t.toList with
        | false =>
          have HMN := Lib.hid (show mdL t (q.take (k + 1)) 0 = M by
            rw [HTK.out, HSN.out, HM.out, lkB, hc1, hc2]; rfl)
          go_wp2_with fail
          go_roundw
          case rel => exact ⟨k + 1, by omega, by go_num, by rw [HMN.out], HB⟩
          case measure => simp [intOf]; omega
        | true =>
          have HMN := Lib.hid (show mdL t (q.take (k + 1)) 0 = jnI M x.mode by
            rw [HTK.out, HSN.out, HM.out, lkB, hc1, hc2]; rfl)
          go_wp2_with fail
          refine HJ.out.mono ?_
          rintro e w' ⟨rfl, hb⟩
          have HB2 := Lib.hid (btr HB.out hb HB.out.size)
          clear hb
          go_wp2_with fail
          go_roundw
          case rel => exact ⟨k + 1, by omega, by go_num, by rw [HMN.out], HB2⟩
          case measure => simp [intOf]; omega
    · obtain rfl : k = n := by omega
      obtain rfl : M = R := by rw [← HM.out, HF.out]
      have cf : decide ((k : Int) < (k : Int)) = false := by simp
      go_wp2_with fail
      go_ret
      exact ⟨rfl, HBW.out⟩

end Go.Proofs.YtgndbhgpdcelpaaDoor
