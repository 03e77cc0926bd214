/-
  Package keys over the translation: Behind.
  Conditions: the row lies in memory.
-/
import Derived.Test.YtpknoclnmhomiaaKs2
import Derived.Test.YtpknoclnmhomiaaBulk
import Derived.Laws.Cover3
namespace Go.Proofs.Ytpknoclnmhomiaa
open Go.RowKit Go.Joins Go.ChangeShapes Go.WideShapes
set_option linter.unusedVariables false

/-- the beginning of a row of bytes -/
theorem slice_h0 (b off m cap n : Nat) (h : n ≤ cap) (w : World) :
    (Instr.slice 25 (.slice (some ⟨b, off, none⟩) m cap) none (some (.int .i64 (n : Int))) none).run Try.prog w = .ok (.slice (some ⟨b, off, none⟩) n cap) w := by
  have hs : (sizeOf (Try.prog.elem 25)).run Try.prog w = .ok 1 w := by first | rfl | kernel_rfl
  rw [run_slice_h w 25 (some ⟨b, off, none⟩) m cap (by kernel_rfl) .i64 (n : Int) (by omega) (by omega), hs]
  have ea : (⟨b, off, none⟩ : Addr).add 0 = ⟨b, off, none⟩ := by unfold Addr.add; split <;> simp_all
  simp only [Result.andThen, sliced, Nat.zero_mul, Option.map_some, ea]
  simp

set_option maxHeartbeats 1000000 in
theorem clone_any (b off cap : Nat) (l : List Nat) (hm : l.length ≤ 4294967296) (w : World) (hA : IsB w b off l) :
    Calls Try.prog 33 #[.slice (some ⟨b, off, none⟩) l.length cap] w fun e w' => ∃ v, e = .returned v ∧ OwB w' w.heap.size v l ∧ Below w.heap.size w w' := by
  generalize hP : (fun (e : Ending) (w' : World) => ∃ v, e = .returned v ∧ OwB w' w.heap.size v l ∧ Below w.heap.size w w') = P
  have hpost : ∀ (v : Value) (w' : World), OwB w' w.heap.size v l → Below w.heap.size w w' → P (.returned v) w' := by
    intro v w' h h2; rw [← hP]; exact ⟨v, rfl, h, h2⟩
  have HP := Lib.hid hpost
  have HB := Lib.hid (hA.below ((Below.refl _ w).alloc (Nat.le_refl _) (.cells #[] 5)))
  have M0 := Lib.hid (bytes_made w)
  have hsz0 : w.heap.size ≤ (w.alloc (.cells #[] 5)).heap.size := by simp
  clear hP hpost hA
  have hnil : ∀ w, (binOp .eql 25 (.slice (some ⟨b, off, none⟩) l.length cap) (.slice none 0 0)).run Try.prog w = .ok (.bool false) w := fun w => by
    simp only [binOp]
    simp [run_equal_slice_nil w 25 5 (some ⟨b, off, none⟩) l.length cap Try.underlying25]
  go_enter Try.func33, Try.ntmps33
  go_wp2_with (first | (at_builtin; refine wp_copyA rfl _ _ rfl w.heap.size _ [] rfl M0.out (some ⟨b, off, none⟩) _ l rfl b off (.inr ⟨_, rfl, fun _ => rfl⟩) HB.out (by simp; omega) hsz0 ?_; intro v1 w1 hown1 hgrow1; have B1 := Lib.hid (((Below.refl w.heap.size w).alloc (Nat.le_refl _) (.cells #[] 5)).grown hgrow1 hsz0 (fun k hk => (M0.out.lt k hk).1)); have O1 := Lib.hid hown1; clear hgrow1 hown1))
  exact HP.out _ _ O1.out B1.out

set_option maxHeartbeats 2000000 in
theorem beh_any (a : Option Addr) (b off cap : Nat) (l : List Nat) (hcap : l.length ≤ cap) (hm : l.length ≤ 4294967296) (w : World) (ha : l.length = 0 ∨ a = some ⟨b, off, none⟩) (hA : IsB w b off l) :
    Calls Try.prog 21 #[.slice a l.length cap] w fun e w' => ∃ v, e = .returned (.tuple #[v, .bool (decide (stripN l l.length ≠ 0))]) ∧ OutB w' w.heap.size v (behB l) ∧ Below w.heap.size w w' := by
  generalize hP : (fun (e : Ending) (w' : World) => ∃ v, e = .returned (.tuple #[v, .bool (decide (stripN l l.length ≠ 0))]) ∧ OutB w' w.heap.size v (behB l) ∧ Below w.heap.size w w') = P
  have hpost : ∀ (v : Value) (w' : World) (d : Bool), (d = true ↔ stripN l l.length ≠ 0) → OutB w' w.heap.size v (behB l) → Below w.heap.size w w' → P (.returned (.tuple #[v, .bool d])) w' := by
    intro v w' d hd h h2
    rw [← hP]
    refine ⟨v, ?_, h, h2⟩
    have : d = decide (stripN l l.length ≠ 0) := by rcases d with _ | _ <;> simp_all
    rw [this]
  have HP := Lib.hid hpost
  have HA := Lib.hid ha
  have HB := Lib.hid hA
  have HCL := Lib.hid clone_any
  clear hpost hP ha hA
  obtain ⟨m, em⟩ : ∃ m, l.length = m := ⟨_, rfl⟩
  have EM := Lib.hid em
  rw [em]
  rw [em] at hm HP hcap
  clear em
  go_enter Try.func21, Try.ntmps21
  go_wp2
  go_loopw [4] (fun i wr => ∃ k : Nat, k ≤ m ∧ i = .int .i64 k ∧ Hid (stripN l m = stripN l k) ∧ w = wr) (fun i _ => (intOf i).toNat)
  case atStart => exact ⟨m, Nat.le_refl _, rfl, rfl, rfl⟩
  case round =>
    obtain ⟨k, h1, rfl, he, rfl⟩ := hrel
    have hk1 : k ≤ 4294967296 := by omega
    rcases k with _ | j
    · have HE := Lib.hid he.out
      have HD := Lib.hid (show (false = true ↔ stripN l m ≠ 0) by rw [show stripN l m = 0 from HE.out]; simp)
      have e0 : behB l = [] := behB_no (by rw [EM.out]; exact HE.out)
      have H0 := Lib.hid (show OutB w w.heap.size (.slice none 0 0) (behB l) by rw [e0]; exact .inl ⟨rfl, rfl⟩)
      clear he e0
      go_wp2
      exact HP.out _ _ _ HD.out H0.out (Below.refl _ _)
    · have hj : j < m := by omega
      have hx : l[j]? = some (l[j]'(by rw [EM.out]; exact hj)) := List.getElem?_eq_getElem _
      generalize l[j]'(by rw [EM.out]; exact hj) = x at *
      obtain rfl : a = some ⟨b, off, none⟩ := by rcases HA.out with h | h; (have := EM.out; omega); exact h
      have a0 := HB.out.c j x hx
      have hx8 := HB.out.lt x (List.mem_of_getElem? hx)
      have j1 : ((j : Int) + 1 - 1) = (j : Int) := by omega
      have j2 : (j : Int) < (m : Int) := by omega
      have j3 : (0 : Int) < (j : Int) + 1 := by omega
      have HX := Lib.hid hx
      have HX8 := Lib.hid hx8
      have HE := Lib.hid he.out
      clear hx hx8 he
      by_cases q : x = 255
      · subst q
        go_wp2
        go_roundw
        case rel => exact ⟨j, by omega, by go_num, by show stripN l m = stripN l j; rw [HE.out, stripN_succ, if_pos HX.out], by trivial⟩
        case measure => first | (simp [intOf]; done) | (simp [intOf]; omega)
      · have q1 : ((x : Int) == 255) = false := by simp; omega
        have q2 : (x == 255) = false := by simpa using q
        have hst : stripN l m = j + 1 := by
          have h := HE.out
          rw [stripN_succ, if_neg (by rw [HX.out]; intro e; exact q (Option.some.inj e))] at h
          exact h
        have HST := Lib.hid hst
        have HD := Lib.hid (show (true = true ↔ stripN l m ≠ 0) by rw [hst]; simp)
        have c1 : ((j : Int) + 1 == 0) = false := by simp; omega
        have hlen : (l.take (j + 1)).length = j + 1 := by rw [List.length_take]; have := EM.out; omega
        have HSL := Lib.hid (slice_h0 b off m cap (j + 1) (by omega))
        have hsl : ∀ w, (Instr.slice 25 (.slice (some ⟨b, off, none⟩) m cap) none (some (.int .i64 ((j : Int) + 1))) none).run Try.prog w = .ok (.slice (some ⟨b, off, none⟩) (j + 1) cap) w := HSL.out
        have hc := HCL.out b off cap (l.take (j + 1)) (by rw [hlen]; omega) w (HB.out.take (j + 1))
        rw [hlen] at hc
        have HC := Lib.hid hc
        clear hst HSL hlen hc
        go_wp2_with fail
        refine HC.out.mono ?_
        rintro xx w1 ⟨v1, rfl, o1, b1⟩
        have hlen : (l.take (j + 1)).length = j + 1 := by rw [List.length_take]; have := EM.out; omega
        obtain ⟨ho, hne⟩ := o1
        obtain ⟨g, gc, hv, hbg, hgl, hcc⟩ := OwB.form ⟨ho, hne⟩
        rw [hlen] at hv ho
        subst hv
        have d0 : w1.cell? ⟨g, j, none⟩ = some (.int .u8 (x : Int)) := hcc j _ (by simp only [bcells, List.getElem?_map, List.getElem?_take, if_pos (Nat.lt_succ_self j), HX.out, Option.map_some])
        have d1 : w1.frozen? ⟨g, j, none⟩ = false := ho.frozenAt j
        obtain ⟨s1, s2⟩ := ho.stored j (.int .u8 ((x + 1 : Nat) : Int))
        rw [set_last HX.out] at s1
        have e8 : IntKind.u8.wrap ((x : Int) + 1) = ((x + 1 : Nat) : Int) := by have := HX8.out; simp only [IntKind.wrap_u8]; omega
        have hb1 := b1.setCell (p := ⟨g, j, none⟩) hbg (.int .u8 ((x + 1 : Nat) : Int))
        have hfin : OutB (w1.setCell ⟨g, j, none⟩ (.int .u8 ((x + 1 : Nat) : Int))) w.heap.size (.slice (some ⟨g, 0, none⟩) (j + 1) gc) (behB l) := by
          rw [behB_of (by rw [EM.out]; exact HST.out) HX.out]
          refine .inr ⟨?_, hne⟩
          have : (l.take j ++ [x + 1]).length = j + 1 := by rw [List.length_append, List.length_take]; have := EM.out; simp; omega
          rw [this]
          exact s1
        have HF := Lib.hid hfin
        have HB1 := Lib.hid hb1
        clear hfin hb1 s1 s2 ho hcc b1 hlen
        go_wp2
        have hp := HP.out _ _ true (by simpa using HD.out) HF.out HB1.out
        simpa using hp

end Go.Proofs.Ytpknoclnmhomiaa
