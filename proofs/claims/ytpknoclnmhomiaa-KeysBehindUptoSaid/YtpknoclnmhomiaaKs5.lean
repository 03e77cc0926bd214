/-
  Package keys over the translation: a reading's steps: must, next, number; each may give up by a panic.
  Conditions: the reader and its bytes lie in memory.
-/
import Derived.Test.YtpknoclnmhomiaaKs2
import Derived.WalkLawsBesides
import Derived.Maps.Range
namespace Go.Proofs.Ytpknoclnmhomiaa
open Go.RowKit Go.Joins Go.ChangeShapes Go.WideShapes
set_option linter.unusedVariables false

/-- what a reading gives up with -/
abbrev Flt (c : Int) : Value := .iface 49 (.agg #[.int .i64 c])
abbrev Pan (c : Int) : Ending := .panicked [{ v := Flt c, recovered := false }]

theorem must_ok (c : Int) (w : World) : Calls Try.prog 40 #[.bool true, .int .i64 c] w fun e w' => e = .returned (.tuple #[]) ∧ w = w' := by
  go_enter Try.func40, Try.ntmps40
  go_wp2
  go_end0
  exact ⟨rfl, rfl⟩
theorem must_no (c : Int) (w : World) : Calls Try.prog 40 #[.bool false, .int .i64 c] w fun e w' => e = Pan c ∧ w = w' := by
  go_enter Try.func40, Try.ntmps40
  go_wp2
  exact ⟨rfl, rfl, rfl⟩

/-- a reader in memory: the bytes that it has ahead of it -/
structure Rd (w : World) (gr b off : Nat) (l : List Nat) : Prop where
  box : ∃ a cap, w.heap[gr]? = some (.cells #[.slice a l.length cap] 52 (0, 0)) ∧ (l.length = 0 ∨ a = some ⟨b, off, none⟩) ∧ l.length ≤ cap
  row : IsB w b off l
  ne : 0 < l.length → b ≠ gr
theorem Rd.lt {w : World} {gr b off : Nat} {l : List Nat} (h : Rd w gr b off l) : gr < w.heap.size := by
  obtain ⟨a, cap, h1, -⟩ := h.box
  exact (Array.getElem?_eq_some_iff.1 h1).1
theorem isB_grown {w w' : World} {b off : Nat} {l : List Nat} {row : Option Nat} (h : IsB w b off l) (hg : w.grownBy w' row) (hne : 0 < l.length → some b ≠ row) : IsB w' b off l := by
  refine ⟨fun hl => Nat.lt_of_lt_of_le (h.hb hl) hg.size, fun i x hx => ?_, h.lt⟩
  have hl : 0 < l.length := by have := (List.getElem?_eq_some_iff.1 hx).1; omega
  rw [World.cell?_of_block (w := w) (hg.block b (h.hb hl) (hne hl))]
  exact h.c i x hx
theorem Rd.grown {w w' : World} {gr b off : Nat} {l : List Nat} {row : Option Nat} (h : Rd w gr b off l) (hg : w.grownBy w' row) (hne : 0 < l.length → some b ≠ row) (hr : some gr ≠ row) : Rd w' gr b off l := by
  obtain ⟨a, cap, h1, h2, h3⟩ := h.box
  exact ⟨⟨a, cap, (hg.block gr h.lt hr).trans h1, h2, h3⟩, isB_grown h.row hg hne, h.ne⟩
theorem Rd.below {w w' : World} {gr b off : Nat} {l : List Nat} (h : Rd w gr b off l) (hb : Below w.heap.size w w') : Rd w' gr b off l :=
  h.grown (row := none) ⟨hb.os, hb.tape, hb.output, hb.size, fun i hi _ => hb.block i hi⟩ (fun _ => by simp) (by simp)
theorem grown_setCell (w : World) (g o : Nat) (u : Value) : w.grownBy (w.setCell ⟨g, o, none⟩ u) (some g) :=
  ⟨rfl, rfl, rfl, by simp [World.setCell], fun k _ hk => heap_setCell_other w ⟨g, o, none⟩ k u (fun e => hk (by simp [e]))⟩
theorem Rd.set {w : World} {gr b off c : Nat} {r : List Nat} (h : Rd w gr b off (c :: r)) (a : Option Addr) (cap : Nat) (ha : r.length = 0 ∨ a = some ⟨b, off + 1, none⟩) (hc : r.length ≤ cap) : Rd (w.setCell ⟨gr, 0, none⟩ (.slice a r.length cap)) gr b (off + 1) r := by
  obtain ⟨a0, cap0, h1, -, -⟩ := h.box
  refine ⟨⟨a, cap, by rw [block_setCell h1 _]; rfl, ha, hc⟩, ?_, fun hl => h.ne (by simp)⟩
  have := h.row.drop 1
  rw [List.drop_succ_cons, List.drop_zero] at this
  exact isB_grown this (grown_setCell w gr 0 _) (fun hl => by simpa using h.ne (by simp))

theorem next_nil (w : World) (gr b off : Nat) (h : Rd w gr b off []) :
    Calls Try.prog 39 #[.pointer (some ⟨gr, 0, none⟩)] w fun e w' => e = Pan 3 ∧ w = w' := by
  obtain ⟨a, cap, h1, -, -⟩ := h.box
  have c0 : w.cell? ⟨gr, 0, none⟩ = some (.slice a 0 cap) := by rw [cell_of_block h1]; rfl
  have HM := Lib.hid must_no
  clear h h1
  go_enter Try.func39, Try.ntmps39
  go_wp2_with (first | (go_at_call 40; refine (HM.out _ _).mono ?_; rintro e w' ⟨rfl, rfl⟩))
  exact ⟨rfl, rfl, rfl⟩

set_option maxHeartbeats 1000000 in
theorem next_cons (w : World) (gr b off c : Nat) (r : List Nat) (hr : r.length ≤ 4294967296) (h : Rd w gr b off (c :: r)) :
    Calls Try.prog 39 #[.pointer (some ⟨gr, 0, none⟩)] w fun e w' => e = .returned (.int .u8 (c : Int)) ∧ Rd w' gr b (off + 1) r ∧ w.grownBy w' (some gr) := by
  obtain ⟨a, cap, h1, h2, h3⟩ := h.box
  have c0 : w.cell? ⟨gr, 0, none⟩ = some (.slice a (r.length + 1) cap) := by rw [cell_of_block h1]; rfl
  have z0 : w.frozen? ⟨gr, 0, none⟩ = false := unfrozen_of_block h1 0
  obtain rfl : a = some ⟨b, off, none⟩ := by rcases h2 with h2 | h2; (simp at h2); exact h2
  have d0 : w.cell? ⟨b, off, none⟩ = some (.int .u8 (c : Int)) := h.row.c 0 c rfl
  rw [List.length_cons] at h3
  have HS := Lib.hid (fun a cap ha hc => h.set (a := a) (cap := cap) ha hc)
  have HM := Lib.hid must_ok
  generalize hn : r.length = n at *
  have HN := Lib.hid hn
  have k1 : (0 : Int) < (n : Int) + 1 := by omega
  have hsl : ∀ w, (Instr.slice 25 (.slice (some ⟨b, off, none⟩) (n + 1) cap) (some (.int .i64 1)) none none).run Try.prog w = .ok (.slice (if cap = 1 then some ⟨b, off, none⟩ else some ⟨b, off + 1, none⟩) n (cap - 1)) w := by
    intro w
    have hs : (sizeOf (Try.prog.elem 25)).run Try.prog w = .ok 1 w := by first | rfl | kernel_rfl
    rw [run_slice_l w 25 (some ⟨b, off, none⟩) (n + 1) cap (by kernel_rfl) .i64 1 (by omega) (by omega), hs]
    have ea : (⟨b, off, none⟩ : Addr).add 1 = ⟨b, off + 1, none⟩ := by unfold Addr.add; split <;> simp_all
    simp only [Result.andThen, sliced]
    rw [show (1 : Int).toNat = 1 from rfl, Nat.mul_one, Option.map_some, ea, Nat.add_sub_cancel]
  have HA := Lib.hid (show n = 0 ∨ (if cap = 1 then some (⟨b, off, none⟩ : Addr) else some ⟨b, off + 1, none⟩) = some ⟨b, off + 1, none⟩ by
    by_cases e : cap = 1
    · exact .inl (by omega)
    · exact .inr (if_neg e))
  have HC := Lib.hid (show n ≤ cap - 1 by omega)
  generalize (if cap = 1 then some (⟨b, off, none⟩ : Addr) else some ⟨b, off + 1, none⟩) = ad at *
  generalize cap - 1 = cp at *
  clear h h1 h2 h3 hn
  go_enter Try.func39, Try.ntmps39
  go_wp2_with (first | (go_at_call 40; refine (HM.out _ _).mono ?_; rintro e w' ⟨rfl, rfl⟩))
  go_ret
  have := HS.out ad cp HA.out HC.out
  exact ⟨rfl, this, grown_setCell _ _ _ _⟩

theorem or_byte (v c : Nat) (hc : c < 256) (hv : v * 256 + c < 18446744073709551616) : bits .or .u64 ((v : Int) * 256) (c : Int) = ((v * 256 + c : Nat) : Int) := by
  have h := u64_or ((v : Int) * 256) (c : Int) (by omega) (by omega) (by omega) (by omega)
  rw [h]
  rw [show ((v : Int) * 256).toNat = v * 256 by omega, show ((c : Int)).toNat = c by omega]
  have := Nat.two_pow_add_eq_or_of_lt (b := c) (i := 8) hc v
  rw [show 2 ^ 8 * v = v * 256 by omega] at this
  rw [this]

set_option maxHeartbeats 1000000 in
theorem number_step (w : World) (gr b off : Nat) (l : List Nat) (hl : l.length ≤ 4294967296) (h : Rd w gr b off l) :
    Calls Try.prog 41 #[.pointer (some ⟨gr, 0, none⟩)] w fun e w' =>
      w.grownBy w' (some gr) ∧ (8 ≤ l.length → e = .returned (.int .u64 (numU (l.take 8) : Nat)) ∧ Rd w' gr b (off + 8) (l.drop 8)) ∧ (l.length < 8 → e = Pan 3) := by
  generalize hP : (fun (e : Ending) (w' : World) => w.grownBy w' (some gr) ∧ (8 ≤ l.length → e = .returned (.int .u64 (numU (l.take 8) : Nat)) ∧ Rd w' gr b (off + 8) (l.drop 8)) ∧ (l.length < 8 → e = Pan 3)) = P
  have hgood : ∀ (w' : World), 8 ≤ l.length → w.grownBy w' (some gr) → Rd w' gr b (off + 8) (l.drop 8) → P (.returned (.int .u64 (numU (l.take 8) : Nat))) w' := by
    intro w' h1 h2 h3; rw [← hP]; exact ⟨h2, fun _ => ⟨rfl, h3⟩, fun h => absurd h (by omega)⟩
  have hbad : ∀ (w' : World), l.length < 8 → w.grownBy w' (some gr) → P (Pan 3) w' := by
    intro w' h1 h2; rw [← hP]; exact ⟨h2, fun h => absurd h (by omega), fun _ => rfl⟩
  have HG := Lib.hid hgood
  have HB := Lib.hid hbad
  have HL := Lib.hid hl
  have HR := Lib.hid h
  have HNN := Lib.hid next_nil
  have HNC := Lib.hid next_cons
  have HLT := Lib.hid h.row.lt
  clear hP hgood hbad h hl
  go_enter Try.func41, Try.ntmps41
  go_wp2_with fail
  go_loopw [3, 4] (fun x i wr => ∃ j : Nat, j ≤ 8 ∧ i = .int .i64 j ∧ x = .int .u64 (numU (l.take j) : Nat) ∧ Hid (j ≤ l.length) ∧ Rd wr gr b (off + j) (l.drop j) ∧ w.grownBy wr (some gr)) (fun _ i _ => 8 - (intOf i).toNat)
  case atStart => exact ⟨0, by omega, rfl, rfl, Nat.zero_le _, HR.out, World.grownBy.refl _ _⟩
  case round =>
    obtain ⟨j, hj, rfl, rfl, HJ, hrd, hg⟩ := hrel
    have HRD := Lib.hid hrd
    have HGR := Lib.hid hg
    clear hrd hg
    by_cases c8 : j < 8
    · have c8' : (j : Int) < 8 := by omega
      rcases hd : l.drop j with _ | ⟨c, r⟩
      · have hlen : l.length < 8 := by
          have := congrArg List.length hd
          rw [List.length_drop, List.length_nil] at this
          omega
        rw [hd] at HRD
        have HLE := Lib.hid hlen
        clear hd hlen
        go_wp2_with (first | (go_at_call 39; refine (HNN.out _ _ _ _ HRD.out).mono ?_; rintro e w' ⟨rfl, rfl⟩))
        exact ⟨rfl, HB.out _ HLE.out HGR.out⟩
      · have hlen : j + 1 + r.length = l.length := by
          have := congrArg List.length hd
          rw [List.length_drop, List.length_cons] at this
          have := HJ.out
          omega
        have hr : l.drop (j + 1) = r := by rw [← List.drop_drop, hd]; rfl
        have hz : l[j]? = some c := by rw [← List.head?_drop, hd]; rfl
        have hc8 : c < 256 := HLT.out c (List.mem_of_getElem? hz)
        have hv := numU_lt j (l.take j) (fun x hx => HLT.out x (List.mem_of_mem_take hx)) (by rw [List.length_take]; omega)
        have hp : (256 : Nat) ^ j ≤ 72057594037927936 := Nat.le_trans (Nat.pow_le_pow_right (by decide) (show j ≤ 7 by omega)) (by decide)
        have hs : numU (l.take (j + 1)) = numU (l.take j) * 256 + c := by rw [List.take_add_one, hz]; exact numU_snoc _ _
        rw [hd] at HRD
        generalize numU (l.take j) = v at *
        have e1 : IntKind.u64.wrap ((v : Int) * 256) = (v : Int) * 256 := by rw [IntKind.wrap_u64]; omega
        have e2 := or_byte v c hc8 (by omega)
        have e3 : IntKind.u64.wrap (c : Int) = (c : Int) := by rw [IntKind.wrap_u64]; omega
        have HSN := Lib.hid hs
        have HRL := Lib.hid (show r.length ≤ 4294967296 by have := HL.out; omega)
        have HLN := Lib.hid hlen
        have HRR := Lib.hid hr
        clear hs hp hz hd hr hlen hv hc8
        go_wp2_with (first | (go_at_call 39; refine (HNC.out _ _ _ _ _ _ HRL.out HRD.out).mono ?_; rintro e w1 ⟨rfl, hrd1, hg1⟩))
        have HRD1 := Lib.hid hrd1
        have HGR1 := Lib.hid (World.grownBy.trans HGR.out hg1)
        clear hrd1 hg1
        go_roundw
        case rel => exact ⟨j + 1, by omega, by go_num, by rw [HSN.out]; exact congrArg (Value.int .u64) (by omega), (by have := HLN.out; omega : j + 1 ≤ l.length), by rw [HRR.out]; exact HRD1.out, HGR1.out⟩
        case measure => first | (simp [intOf]; done) | (simp [intOf]; omega)
    · obtain rfl : j = 8 := by omega
      have hgd := HG.out
      go_wp2_with fail
      exact hgd _ HJ.out HGR.out HRD.out

end Go.Proofs.Ytpknoclnmhomiaa
