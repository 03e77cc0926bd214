/-
  haspref06.one: a value out of a row's bytes.
  Conditions: the bytes lie in memory.
-/
import Derived.Test.YtpknoclnmhomiabRow4
import Derived.Test.YtpknoclnmhomiabKp
namespace Go.Proofs.Ytpknoclnmhomiab
open Go.RowKit Go.Joins Go.ChangeShapes Go.WideShapes
set_option linter.unusedVariables false

def OneOk (W : World) (X : Int × Vt × Nat) (e : Ending) (w' : World) : Prop :=
  ∃ v q, e = .returned (.tuple #[v, .int .i64 (q : Nat), .int .i64 X.1]) ∧ (X.1 = 0 → v = Vv X.2.1.1 X.2.1.2.1 X.2.1.2.2 ∧ q = X.2.2) ∧ (∃ k n s, v = Vv k n s) ∧ Below W.heap.size W w'
theorem OneOk.bad {W w' : World} {X : Int × Vt × Nat} (c : Int) (hc : c ≠ 0) (hX : X.1 = c) (k n : Int) (s : ByteArray) (q : Nat) (h : Below W.heap.size W w') : OneOk W X (.returned (.tuple #[Vv k n s, .int .i64 (q : Nat), .int .i64 c])) w' :=
  ⟨_, _, by rw [hX], fun h => absurd (hX.symm.trans h) hc, ⟨_, _, _, rfl⟩, h⟩
theorem OneOk.good {W w' : World} {X : Int × Vt × Nat} (k n : Int) (s : ByteArray) (q : Nat) (hX : X = (0, (k, n, s), q)) (h : Below W.heap.size W w') : OneOk W X (.returned (.tuple #[Vv k n s, .int .i64 (q : Nat), .int .i64 0])) w' := by
  subst hX
  exact ⟨_, _, rfl, fun _ => ⟨rfl, rfl⟩, ⟨_, _, _, rfl⟩, h⟩

abbrev Ob (k n : Int) (s : ByteArray) : Obj := .cells #[.int .i64 k, .int .i64 n, .string s] 43
abbrev Cb (g : Nat) (k n : Int) (s : ByteArray) : List (Nat × Nat × Value) := [(g, 0, .int .i64 k), (g, 1, .int .i64 n), (g, 2, .string s)]
theorem two_boxes (w : World) : Rg w.heap.size w ((w.alloc (Ob 0 0 Em)).alloc (Ob 0 0 Em)) (Cb w.heap.size 0 0 Em ++ Cb (w.heap.size + 1) 0 0 Em) := by
  refine ⟨((Below.refl _ _).alloc (Nat.le_refl _) _).alloc (by simp) _, by simp; omega, ?_⟩
  unfold Kp
  simp only [List.cons_append, List.nil_append, List.forall_mem_cons, List.not_mem_nil, false_implies, implies_true, and_true]
  go_simp
theorem box_out {B h : Nat} {w w1 : World} {k n : Int} {s : ByteArray} {l : List (Nat × Nat × Value)} (k' n' : Int) (s' : ByteArray) (r : Rg B w w1 (Cb h k n s ++ l)) (hB : B ≤ h) :
    Below B w (((w1.setCell ⟨h, 0, none⟩ (.int .i64 k')).setCell ⟨h, 1, none⟩ (.int .i64 n')).setCell ⟨h, 2, none⟩ (.string s')) :=
  ((r.bel.setCell hB _).setCell hB _).setCell hB _

theorem rone_bad (t : Int) (l : List Nat) (p : Nat) (ht : t < 1 ∨ 4 < t) : (rone t l p).1 = 30 := by unfold rone; rw [if_pos ht]
theorem rone_short (t : Int) (l : List Nat) (p : Nat) (ht : ¬ (t < 1 ∨ 4 < t)) (h : l.length < p + nby t) : (rone t l p).1 = 3 := by unfold rone; rw [if_neg ht, if_pos h]
theorem rone_1big (l : List Nat) (p u : Nat) (h : ¬ l.length < p + 1) (hu : numL ((l.drop p).take 1) = u) (h1 : 1 < u) : (rone 1 l p).1 = 2 := by
  unfold rone
  rw [show nby 1 = 1 from rfl, hu, if_neg (by decide), if_neg h, if_pos ⟨rfl, h1⟩]
theorem rone_1 (l : List Nat) (p u : Nat) (h : ¬ l.length < p + 1) (hu : numL ((l.drop p).take 1) = u) (h1 : ¬ 1 < u) : rone 1 l p = (0, (1, (u : Int), Em), p + 1) := by
  unfold rone
  rw [show nby 1 = 1 from rfl, hu, if_neg (by decide), if_neg h, if_neg (fun g => h1 g.2), if_neg (fun g => absurd g.1 (by decide)), if_pos (by decide)]
  rw [show sgn u = (u : Int) from if_pos (by omega)]
theorem rone_2 (l : List Nat) (p u : Nat) (h : ¬ l.length < p + 8) (hu : numL ((l.drop p).take 8) = u) : rone 2 l p = (0, (2, sgn u, Em), p + 8) := by
  unfold rone
  rw [show nby 2 = 8 from rfl, hu, if_neg (by decide), if_neg h, if_neg (fun g => absurd g.1 (by decide)), if_neg (fun g => absurd g.1 (by decide)), if_pos (by decide)]
theorem rone_3bad (l : List Nat) (p u : Nat) (h : ¬ l.length < p + 8) (hu : numL ((l.drop p).take 8) = u) (hc : PCanon (sgn u) ≠ sgn u) : (rone 3 l p).1 = 2 := by
  unfold rone
  rw [show nby 3 = 8 from rfl, hu, if_neg (by decide), if_neg h, if_neg (fun g => absurd g.1 (by decide)), if_pos ⟨rfl, hc⟩]
theorem rone_3 (l : List Nat) (p u : Nat) (h : ¬ l.length < p + 8) (hu : numL ((l.drop p).take 8) = u) (hc : PCanon (sgn u) = sgn u) : rone 3 l p = (0, (3, sgn u, Em), p + 8) := by
  unfold rone
  rw [show nby 3 = 8 from rfl, hu, if_neg (by decide), if_neg h, if_neg (fun g => absurd g.1 (by decide)), if_neg (fun g => g.2 hc), if_pos (by decide)]
theorem rone_4big (l : List Nat) (p u : Nat) (h : ¬ l.length < p + 1) (hu : numL ((l.drop p).take 1) = u) (h1 : 200 < u) : (rone 4 l p).1 = 1 := by
  unfold rone
  rw [show nby 4 = 1 from rfl, hu, if_neg (by decide), if_neg h, if_neg (fun g => absurd g.1 (by decide)), if_neg (fun g => absurd g.1 (by decide)), if_neg (by decide), if_pos h1]
theorem rone_4short (l : List Nat) (p u : Nat) (h : ¬ l.length < p + 1) (hu : numL ((l.drop p).take 1) = u) (h1 : ¬ 200 < u) (h2 : l.length < p + 1 + u) : (rone 4 l p).1 = 3 := by
  unfold rone
  rw [show nby 4 = 1 from rfl, hu, if_neg (by decide), if_neg h, if_neg (fun g => absurd g.1 (by decide)), if_neg (fun g => absurd g.1 (by decide)), if_neg (by decide), if_neg h1, if_pos h2]
theorem rone_4 (l : List Nat) (p u : Nat) (h : ¬ l.length < p + 1) (hu : numL ((l.drop p).take 1) = u) (h1 : ¬ 200 < u) (h2 : ¬ l.length < p + 1 + u) : rone 4 l p = (0, (4, 0, strB ((l.drop (p + 1)).take u)), p + 1 + u) := by
  unfold rone
  rw [show nby 4 = 1 from rfl, hu, if_neg (by decide), if_neg h, if_neg (fun g => absurd g.1 (by decide)), if_neg (fun g => absurd g.1 (by decide)), if_neg (by decide), if_neg h1, if_neg h2]
theorem numL_at (l : List Nat) (p N j z : Nat) (hz : l[p + j]? = some z) (hj : j < N) : numL (((l.drop p).take N).drop j) = z + 256 * numL (((l.drop p).take N).drop (j + 1)) := by
  have h : ((l.drop p).take N)[j]? = some z := by rw [List.getElem?_take, if_pos hj, List.getElem?_drop]; exact hz
  obtain ⟨h1, e1⟩ := List.getElem?_eq_some_iff.1 h
  rw [List.drop_eq_getElem_cons h1, e1]
  rfl
theorem numL_end (l : List Nat) (p N : Nat) : numL (((l.drop p).take N).drop N) = 0 := by
  rw [List.drop_eq_nil_of_le (by rw [List.length_take]; omega)]
  rfl
theorem sgn_wrap {u : Nat} (h : u < 18446744073709551616) : IntKind.i64.wrap (u : Int) = sgn u := by
  rw [IntKind.wrap_i64]
  unfold sgn
  split <;> omega

set_option maxRecDepth 100000 in
set_option maxHeartbeats 4000000 in
theorem one_wrong (t : Int) (b off cap : Nat) (l : List Nat) (p : Nat) (hp : p ≤ l.length) (hln : l.length ≤ 17592186044416) (hcap : l.length ≤ cap) (hcm : cap ≤ 9223372036854775807) (w : World) (hA : IsB w b off l) (ht : t < 1 ∨ 4 < t) :
    Calls Try.prog 26 #[.int .i64 t, .slice (some ⟨b, off, none⟩) l.length cap, .int .i64 (p : Nat)] w fun e w' => OneOk w (rone t l p) e w' := by
  generalize hP : (fun (e : Ending) (w' : World) => OneOk w (rone t l p) e w') = P
  have hbad : ∀ (c : Int), c ≠ 0 → (rone t l p).1 = c → ∀ (k n : Int) (s : ByteArray) (q : Nat) (w' : World), Below w.heap.size w w' → P (.returned (.tuple #[Vv k n s, .int .i64 (q : Nat), .int .i64 c])) w' := by
    intro c hc hX k n s q w' h; rw [← hP]; exact OneOk.bad c hc hX k n s q h
  have hgood : ∀ (k n : Int) (s : ByteArray) (q : Nat), rone t l p = (0, (k, n, s), q) → ∀ (w' : World), Below w.heap.size w w' → P (.returned (.tuple #[Vv k n s, .int .i64 (q : Nat), .int .i64 0])) w' := by
    intro k n s q hX w' h; rw [← hP]; exact OneOk.good k n s q hX h
  have HBAD := Lib.hid hbad
  have HGOOD := Lib.hid hgood
  have HB := Lib.hid hA
  clear hP hbad hgood hA
  have HW := Lib.hid (rone_bad t l p ht)
  rcases ht with h | h
  · go_enter Try.func26, Try.ntmps26
    go_upto_region 2 with fail
    have k0 := two_boxes w
    generalize (w.alloc (Ob 0 0 Em)).alloc (Ob 0 0 Em) = wb at *
    have r1 := k0.kp
    obtain ⟨⟨z0, y0⟩, ⟨z1, y1⟩, ⟨z2, y2⟩⟩ := And.intro r1.hd (And.intro r1.tl.hd r1.tl.tl.hd)
    have n0 := r1.tl.tl.tl.hd.1
    have n1 := r1.tl.tl.tl.tl.hd.1
    have n2 := r1.tl.tl.tl.tl.tl.hd.1
    have KK := Lib.hid k0
    clear r1 k0
    go_wp2
    exact bodyPost_ret (v := .tuple #[Vv 0 0 Em, .int .i64 (((p : Nat) : Int)), .int .i64 30]) (by simp [results, Try.results26, go_sem, z0, z1, z2, Vv]) rfl (HBAD.out 30 (by decide) HW.out 0 0 Em p _ (box_out 0 0 Em KK.out (Nat.le_refl _)))
  · have h' : decide (t < 1) = false := by simp; omega
    go_enter Try.func26, Try.ntmps26
    go_upto_region 2 with fail
    have k0 := two_boxes w
    generalize (w.alloc (Ob 0 0 Em)).alloc (Ob 0 0 Em) = wb at *
    have r1 := k0.kp
    obtain ⟨⟨z0, y0⟩, ⟨z1, y1⟩, ⟨z2, y2⟩⟩ := And.intro r1.hd (And.intro r1.tl.hd r1.tl.tl.hd)
    have n0 := r1.tl.tl.tl.hd.1
    have n1 := r1.tl.tl.tl.tl.hd.1
    have n2 := r1.tl.tl.tl.tl.tl.hd.1
    have KK := Lib.hid k0
    clear r1 k0
    go_wp2
    exact bodyPost_ret (v := .tuple #[Vv 0 0 Em, .int .i64 (((p : Nat) : Int)), .int .i64 30]) (by simp [results, Try.results26, go_sem, z0, z1, z2, Vv]) rfl (HBAD.out 30 (by decide) HW.out 0 0 Em p _ (box_out 0 0 Em KK.out (Nat.le_refl _)))

set_option maxRecDepth 100000 in
set_option maxHeartbeats 4000000 in
theorem one_1 (b off cap : Nat) (l : List Nat) (p : Nat) (hp : p ≤ l.length) (hln : l.length ≤ 17592186044416) (hcap : l.length ≤ cap) (hcm : cap ≤ 9223372036854775807) (w : World) (hA : IsB w b off l) :
    Calls Try.prog 26 #[.int .i64 1, .slice (some ⟨b, off, none⟩) l.length cap, .int .i64 (p : Nat)] w fun e w' => OneOk w (rone 1 l p) e w' := by
  generalize hP : (fun (e : Ending) (w' : World) => OneOk w (rone 1 l p) e w') = P
  have hbad : ∀ (c : Int), c ≠ 0 → (rone 1 l p).1 = c → ∀ (k n : Int) (s : ByteArray) (q : Nat) (w' : World), Below w.heap.size w w' → P (.returned (.tuple #[Vv k n s, .int .i64 (q : Nat), .int .i64 c])) w' := by
    intro c hc hX k n s q w' h; rw [← hP]; exact OneOk.bad c hc hX k n s q h
  have hgood : ∀ (k n : Int) (s : ByteArray) (q : Nat), rone 1 l p = (0, (k, n, s), q) → ∀ (w' : World), Below w.heap.size w w' → P (.returned (.tuple #[Vv k n s, .int .i64 (q : Nat), .int .i64 0])) w' := by
    intro k n s q hX w' h; rw [← hP]; exact OneOk.good k n s q hX h
  have HBAD := Lib.hid hbad
  have HGOOD := Lib.hid hgood
  have HB := Lib.hid hA
  clear hP hbad hgood hA
  have HC := Lib.hid refcanon_any
  by_cases hs : l.length < p + 1
  · have HS := Lib.hid (rone_short 1 l p (by decide) hs)
    have hs1 : (l.length : Int) - (p : Int) < 1 := by omega
    have hlm : (l.length : Int) ≤ 17592186044416 := by omega
    have hpp : (p : Int) ≤ (l.length : Int) := by omega
    generalize l.length = m at *
    go_enter Try.func26, Try.ntmps26
    go_upto_region 2 with fail
    have k0 := two_boxes w
    generalize (w.alloc (Ob 0 0 Em)).alloc (Ob 0 0 Em) = wb at *
    have r1 := k0.kp
    obtain ⟨⟨z0, y0⟩, ⟨z1, y1⟩, ⟨z2, y2⟩⟩ := And.intro r1.hd (And.intro r1.tl.hd r1.tl.tl.hd)
    have n0 := r1.tl.tl.tl.hd.1
    have n1 := r1.tl.tl.tl.tl.hd.1
    have n2 := r1.tl.tl.tl.tl.tl.hd.1
    have KK := Lib.hid k0
    clear r1 k0
    go_wp2
    exact bodyPost_ret (v := .tuple #[Vv 0 0 Em, .int .i64 (((p : Nat) : Int)), .int .i64 3]) (by simp [results, Try.results26, go_sem, z0, z1, z2, Vv]) rfl (HBAD.out 3 (by decide) HS.out 0 0 Em p _ (box_out 0 0 Em KK.out (Nat.le_refl _)))
  · have hs1 : decide ((l.length : Int) - (p : Int) < 1) = false := by simp; omega
    have hs2 : ¬ ((l.length : Int) - (p : Int) < 1) := by omega
    have hlm : (l.length : Int) ≤ 17592186044416 := by omega
    have hpp : (p : Int) + 1 ≤ (l.length : Int) := by omega
    obtain ⟨m, em⟩ : ∃ m, l.length = m := ⟨_, rfl⟩
    have EM := Lib.hid em
    have HSN := Lib.hid hs
    rw [em] at hp hln hcap hs1 hs2 hlm hpp ⊢
    clear em hs
    go_enter Try.func26, Try.ntmps26
    go_upto_region 2 with fail
    have k0 := two_boxes w
    generalize (w.alloc (Ob 0 0 Em)).alloc (Ob 0 0 Em) = wb at *
    have r1 := k0.kp
    obtain ⟨⟨z0, y0⟩, ⟨z1, y1⟩, ⟨z2, y2⟩⟩ := And.intro r1.hd (And.intro r1.tl.hd r1.tl.tl.hd)
    have n0 := r1.tl.tl.tl.hd.1
    have n1 := r1.tl.tl.tl.tl.hd.1
    have n2 := r1.tl.tl.tl.tl.tl.hd.1
    have KK := Lib.hid k0
    clear r1 k0
    have HBW := Lib.hid (HB.out.below (KK.out.bel))
    go_wp2
    go_loop [11, 12] (fun u k => ∃ j U : Nat, j ≤ 1 ∧ u = .int .u64 U ∧ k = .int .i64 ((j : Int) - 1) ∧ Hid (U = numL (((l.drop p).take 1).drop j)) ∧ Hid (U < 256 ^ (1 - j))) (fun _ k => (intOf k + 1).toNat)
    case atStart => exact ⟨1, 0, Nat.le_refl _, rfl, by first | rfl | simp, Lib.hid (numL_end l p 1).symm, Lib.hid (by simp)⟩
    case round =>
      obtain ⟨j, U, hj, rfl, rfl, HU, HUB⟩ := hrel
      have hjc : j = 0 ∨ j = 1 := by omega
      clear hj
      rcases hjc with rfl | rfl
      · have hu : numL ((l.drop p).take 1) = U := HU.out.symm
        have hUB : U < 256 := HUB.out
        clear HU HUB
        by_cases h1 : 1 < U
        · have HX := Lib.hid (rone_1big l p U HSN.out hu h1)
          have h2 : (1 : Int) < (U : Int) := by omega
          clear hu
          go_wp2
          exact bodyPost_ret (v := .tuple #[Vv 0 0 Em, .int .i64 (((p + 1 : Nat) : Int)), .int .i64 2]) (by simp [results, Try.results26, go_sem, z0, z1, z2, Vv]) rfl (HBAD.out 2 (by decide) HX.out 0 0 Em (p + 1) _ (box_out 0 0 Em KK.out (Nat.le_refl _)))
        · have HX := Lib.hid (rone_1 l p U HSN.out hu h1)
          have h2 : decide ((1 : Int) < (U : Int)) = false := by simp; omega
          have h3 : (U : Int) ≤ 1 := by omega
          have h4 : IntKind.i64.wrap (U : Int) = (U : Int) := by rw [IntKind.wrap_i64]; omega
          have h5 : ¬ 1 < (U : Int) := by omega
          clear hu h1
          go_wp2
          exact bodyPost_ret (v := .tuple #[Vv 1 (U : Int) Em, .int .i64 (((p + 1 : Nat) : Int)), .int .i64 0]) (by simp [results, Try.results26, go_sem, z0, z1, z2, Vv]) rfl (HGOOD.out 1 (U : Int) Em (p + 1) HX.out _ (box_out 1 (U : Int) Em KK.out (Nat.le_refl _)))
      · have hz : l[p + 0]? = some (l[p + 0]'(by have := EM.out; omega)) := List.getElem?_eq_getElem _
        generalize l[p + 0]'(by have := EM.out; omega) = z at *
        have a0 := HBW.out.c (p + 0) z hz
        rw [Nat.add_zero] at a0
        have hz8 := HBW.out.lt z (List.mem_of_getElem? hz)
        have HN : Hid (U * 256 + z = numL (((l.drop p).take 1).drop 0)) := Lib.hid (by have h0 := numL_at l p 1 0 z hz (by decide); have h1 := HU.out; simp only [Nat.reduceAdd] at h0; omega)
        have hUB : U < 1 := HUB.out
        have HNB : Hid (U * 256 + z < 256 ^ (1 - 0)) := Lib.hid (by rw [show (256 : Nat) ^ (1 - 0) = 256 from rfl]; omega)
        have e1 : IntKind.u64.wrap ((U : Int) * 256) = (U : Int) * 256 := by rw [IntKind.wrap_u64]; omega
        have e2 : IntKind.u64.wrap ((U : Int) * 256 + (z : Int)) = (U : Int) * 256 + (z : Int) := by rw [IntKind.wrap_u64]; omega
        have e3 : IntKind.u64.wrap (z : Int) = (z : Int) := by rw [IntKind.wrap_u64]; omega
        clear hz HU HUB
        go_wp2
        go_round
        case rel => exact ⟨0, U * 256 + z, by omega, by first | rfl | (simp; done) | (congr 1; simp; omega) | (congr 1; omega), by first | rfl | simp, HN, HNB⟩
        case measure => first | (simp [intOf]; done) | (simp [intOf]; omega)

set_option maxRecDepth 100000 in
set_option maxHeartbeats 4000000 in
theorem one_2 (b off cap : Nat) (l : List Nat) (p : Nat) (hp : p ≤ l.length) (hln : l.length ≤ 17592186044416) (hcap : l.length ≤ cap) (hcm : cap ≤ 9223372036854775807) (w : World) (hA : IsB w b off l) :
    Calls Try.prog 26 #[.int .i64 2, .slice (some ⟨b, off, none⟩) l.length cap, .int .i64 (p : Nat)] w fun e w' => OneOk w (rone 2 l p) e w' := by
  generalize hP : (fun (e : Ending) (w' : World) => OneOk w (rone 2 l p) e w') = P
  have hbad : ∀ (c : Int), c ≠ 0 → (rone 2 l p).1 = c → ∀ (k n : Int) (s : ByteArray) (q : Nat) (w' : World), Below w.heap.size w w' → P (.returned (.tuple #[Vv k n s, .int .i64 (q : Nat), .int .i64 c])) w' := by
    intro c hc hX k n s q w' h; rw [← hP]; exact OneOk.bad c hc hX k n s q h
  have hgood : ∀ (k n : Int) (s : ByteArray) (q : Nat), rone 2 l p = (0, (k, n, s), q) → ∀ (w' : World), Below w.heap.size w w' → P (.returned (.tuple #[Vv k n s, .int .i64 (q : Nat), .int .i64 0])) w' := by
    intro k n s q hX w' h; rw [← hP]; exact OneOk.good k n s q hX h
  have HBAD := Lib.hid hbad
  have HGOOD := Lib.hid hgood
  have HB := Lib.hid hA
  clear hP hbad hgood hA
  have HC := Lib.hid refcanon_any
  by_cases hs : l.length < p + 8
  · have HS := Lib.hid (rone_short 2 l p (by decide) hs)
    have hs1 : (l.length : Int) - (p : Int) < 8 := by omega
    have hlm : (l.length : Int) ≤ 17592186044416 := by omega
    have hpp : (p : Int) ≤ (l.length : Int) := by omega
    generalize l.length = m at *
    go_enter Try.func26, Try.ntmps26
    go_upto_region 2 with fail
    have k0 := two_boxes w
    generalize (w.alloc (Ob 0 0 Em)).alloc (Ob 0 0 Em) = wb at *
    have r1 := k0.kp
    obtain ⟨⟨z0, y0⟩, ⟨z1, y1⟩, ⟨z2, y2⟩⟩ := And.intro r1.hd (And.intro r1.tl.hd r1.tl.tl.hd)
    have n0 := r1.tl.tl.tl.hd.1
    have n1 := r1.tl.tl.tl.tl.hd.1
    have n2 := r1.tl.tl.tl.tl.tl.hd.1
    have KK := Lib.hid k0
    clear r1 k0
    go_wp2
    exact bodyPost_ret (v := .tuple #[Vv 0 0 Em, .int .i64 (((p : Nat) : Int)), .int .i64 3]) (by simp [results, Try.results26, go_sem, z0, z1, z2, Vv]) rfl (HBAD.out 3 (by decide) HS.out 0 0 Em p _ (box_out 0 0 Em KK.out (Nat.le_refl _)))
  · have hs1 : decide ((l.length : Int) - (p : Int) < 8) = false := by simp; omega
    have hs2 : ¬ ((l.length : Int) - (p : Int) < 8) := by omega
    have hlm : (l.length : Int) ≤ 17592186044416 := by omega
    have hpp : (p : Int) + 8 ≤ (l.length : Int) := by omega
    obtain ⟨m, em⟩ : ∃ m, l.length = m := ⟨_, rfl⟩
    have EM := Lib.hid em
    have HSN := Lib.hid hs
    rw [em] at hp hln hcap hs1 hs2 hlm hpp ⊢
    clear em hs
    go_enter Try.func26, Try.ntmps26
    go_upto_region 2 with fail
    have k0 := two_boxes w
    generalize (w.alloc (Ob 0 0 Em)).alloc (Ob 0 0 Em) = wb at *
    have r1 := k0.kp
    obtain ⟨⟨z0, y0⟩, ⟨z1, y1⟩, ⟨z2, y2⟩⟩ := And.intro r1.hd (And.intro r1.tl.hd r1.tl.tl.hd)
    have n0 := r1.tl.tl.tl.hd.1
    have n1 := r1.tl.tl.tl.tl.hd.1
    have n2 := r1.tl.tl.tl.tl.tl.hd.1
    have KK := Lib.hid k0
    clear r1 k0
    have HBW := Lib.hid (HB.out.below (KK.out.bel))
    go_wp2
    go_loop [11, 12] (fun u k => ∃ j U : Nat, j ≤ 8 ∧ u = .int .u64 U ∧ k = .int .i64 ((j : Int) - 1) ∧ Hid (U = numL (((l.drop p).take 8).drop j)) ∧ Hid (U < 256 ^ (8 - j))) (fun _ k => (intOf k + 1).toNat)
    case atStart => exact ⟨8, 0, Nat.le_refl _, rfl, by first | rfl | simp, Lib.hid (numL_end l p 8).symm, Lib.hid (by simp)⟩
    case round =>
      obtain ⟨j, U, hj, rfl, rfl, HU, HUB⟩ := hrel
      have hjc : j = 0 ∨ j = 1 ∨ j = 2 ∨ j = 3 ∨ j = 4 ∨ j = 5 ∨ j = 6 ∨ j = 7 ∨ j = 8 := by omega
      clear hj
      rcases hjc with rfl | rfl | rfl | rfl | rfl | rfl | rfl | rfl | rfl
      · have hu : numL ((l.drop p).take 8) = U := HU.out.symm
        have hUB : U < 18446744073709551616 := HUB.out
        clear HU HUB
        have HX := Lib.hid (rone_2 l p U HSN.out hu)
        have e9 := sgn_wrap hUB
        generalize sgn U = S at *
        clear hu
        go_wp2
        exact bodyPost_ret (v := .tuple #[Vv 2 S Em, .int .i64 (((p + 8 : Nat) : Int)), .int .i64 0]) (by simp [results, Try.results26, go_sem, z0, z1, z2, Vv]) rfl (HGOOD.out 2 S Em (p + 8) HX.out _ (box_out 2 S Em KK.out (Nat.le_refl _)))
      · have hz : l[p + 0]? = some (l[p + 0]'(by have := EM.out; omega)) := List.getElem?_eq_getElem _
        generalize l[p + 0]'(by have := EM.out; omega) = z at *
        have a0 := HBW.out.c (p + 0) z hz
        rw [Nat.add_zero] at a0
        have hz8 := HBW.out.lt z (List.mem_of_getElem? hz)
        have HN : Hid (U * 256 + z = numL (((l.drop p).take 8).drop 0)) := Lib.hid (by have h0 := numL_at l p 8 0 z hz (by decide); have h1 := HU.out; simp only [Nat.reduceAdd] at h0; omega)
        have hUB : U < 72057594037927936 := HUB.out
        have HNB : Hid (U * 256 + z < 256 ^ (8 - 0)) := Lib.hid (by rw [show (256 : Nat) ^ (8 - 0) = 18446744073709551616 from rfl]; omega)
        have e1 : IntKind.u64.wrap ((U : Int) * 256) = (U : Int) * 256 := by rw [IntKind.wrap_u64]; omega
        have e2 : IntKind.u64.wrap ((U : Int) * 256 + (z : Int)) = (U : Int) * 256 + (z : Int) := by rw [IntKind.wrap_u64]; omega
        have e3 : IntKind.u64.wrap (z : Int) = (z : Int) := by rw [IntKind.wrap_u64]; omega
        clear hz HU HUB
        go_wp2
        go_round
        case rel => exact ⟨0, U * 256 + z, by omega, by first | rfl | (simp; done) | (congr 1; simp; omega) | (congr 1; omega), by first | rfl | simp, HN, HNB⟩
        case measure => first | (simp [intOf]; done) | (simp [intOf]; omega)
      · have hz : l[p + 1]? = some (l[p + 1]'(by have := EM.out; omega)) := List.getElem?_eq_getElem _
        generalize l[p + 1]'(by have := EM.out; omega) = z at *
        have a0 := HBW.out.c (p + 1) z hz
        skip
        have hz8 := HBW.out.lt z (List.mem_of_getElem? hz)
        have HN : Hid (U * 256 + z = numL (((l.drop p).take 8).drop 1)) := Lib.hid (by have h0 := numL_at l p 8 1 z hz (by decide); have h1 := HU.out; simp only [Nat.reduceAdd] at h0; omega)
        have hUB : U < 281474976710656 := HUB.out
        have HNB : Hid (U * 256 + z < 256 ^ (8 - 1)) := Lib.hid (by rw [show (256 : Nat) ^ (8 - 1) = 72057594037927936 from rfl]; omega)
        have e1 : IntKind.u64.wrap ((U : Int) * 256) = (U : Int) * 256 := by rw [IntKind.wrap_u64]; omega
        have e2 : IntKind.u64.wrap ((U : Int) * 256 + (z : Int)) = (U : Int) * 256 + (z : Int) := by rw [IntKind.wrap_u64]; omega
        have e3 : IntKind.u64.wrap (z : Int) = (z : Int) := by rw [IntKind.wrap_u64]; omega
        clear hz HU HUB
        go_wp2
        go_round
        case rel => exact ⟨1, U * 256 + z, by omega, by first | rfl | (simp; done) | (congr 1; simp; omega) | (congr 1; omega), by first | rfl | simp, HN, HNB⟩
        case measure => first | (simp [intOf]; done) | (simp [intOf]; omega)
      · have hz : l[p + 2]? = some (l[p + 2]'(by have := EM.out; omega)) := List.getElem?_eq_getElem _
        generalize l[p + 2]'(by have := EM.out; omega) = z at *
        have a0 := HBW.out.c (p + 2) z hz
        skip
        have hz8 := HBW.out.lt z (List.mem_of_getElem? hz)
        have HN : Hid (U * 256 + z = numL (((l.drop p).take 8).drop 2)) := Lib.hid (by have h0 := numL_at l p 8 2 z hz (by decide); have h1 := HU.out; simp only [Nat.reduceAdd] at h0; omega)
        have hUB : U < 1099511627776 := HUB.out
        have HNB : Hid (U * 256 + z < 256 ^ (8 - 2)) := Lib.hid (by rw [show (256 : Nat) ^ (8 - 2) = 281474976710656 from rfl]; omega)
        have e1 : IntKind.u64.wrap ((U : Int) * 256) = (U : Int) * 256 := by rw [IntKind.wrap_u64]; omega
        have e2 : IntKind.u64.wrap ((U : Int) * 256 + (z : Int)) = (U : Int) * 256 + (z : Int) := by rw [IntKind.wrap_u64]; omega
        have e3 : IntKind.u64.wrap (z : Int) = (z : Int) := by rw [IntKind.wrap_u64]; omega
        clear hz HU HUB
        go_wp2
        go_round
        case rel => exact ⟨2, U * 256 + z, by omega, by first | rfl | (simp; done) | (congr 1; simp; omega) | (congr 1; omega), by first | rfl | simp, HN, HNB⟩
        case measure => first | (simp [intOf]; done) | (simp [intOf]; omega)
      · have hz : l[p + 3]? = some (l[p + 3]'(by have := EM.out; omega)) := List.getElem?_eq_getElem _
        generalize l[p + 3]'(by have := EM.out; omega) = z at *
        have a0 := HBW.out.c (p + 3) z hz
        skip
        have hz8 := HBW.out.lt z (List.mem_of_getElem? hz)
        have HN : Hid (U * 256 + z = numL (((l.drop p).take 8).drop 3)) := Lib.hid (by have h0 := numL_at l p 8 3 z hz (by decide); have h1 := HU.out; simp only [Nat.reduceAdd] at h0; omega)
        have hUB : U < 4294967296 := HUB.out
        have HNB : Hid (U * 256 + z < 256 ^ (8 - 3)) := Lib.hid (by rw [show (256 : Nat) ^ (8 - 3) = 1099511627776 from rfl]; omega)
        have e1 : IntKind.u64.wrap ((U : Int) * 256) = (U : Int) * 256 := by rw [IntKind.wrap_u64]; omega
        have e2 : IntKind.u64.wrap ((U : Int) * 256 + (z : Int)) = (U : Int) * 256 + (z : Int) := by rw [IntKind.wrap_u64]; omega
        have e3 : IntKind.u64.wrap (z : Int) = (z : Int) := by rw [IntKind.wrap_u64]; omega
        clear hz HU HUB
        go_wp2
        go_round
        case rel => exact ⟨3, U * 256 + z, by omega, by first | rfl | (simp; done) | (congr 1; simp; omega) | (congr 1; omega), by first | rfl | simp, HN, HNB⟩
        case measure => first | (simp [intOf]; done) | (simp [intOf]; omega)
      · have hz : l[p + 4]? = some (l[p + 4]'(by have := EM.out; omega)) := List.getElem?_eq_getElem _
        generalize l[p + 4]'(by have := EM.out; omega) = z at *
        have a0 := HBW.out.c (p + 4) z hz
        skip
        have hz8 := HBW.out.lt z (List.mem_of_getElem? hz)
        have HN : Hid (U * 256 + z = numL (((l.drop p).take 8).drop 4)) := Lib.hid (by have h0 := numL_at l p 8 4 z hz (by decide); have h1 := HU.out; simp only [Nat.reduceAdd] at h0; omega)
        have hUB : U < 16777216 := HUB.out
        have HNB : Hid (U * 256 + z < 256 ^ (8 - 4)) := Lib.hid (by rw [show (256 : Nat) ^ (8 - 4) = 4294967296 from rfl]; omega)
        have e1 : IntKind.u64.wrap ((U : Int) * 256) = (U : Int) * 256 := by rw [IntKind.wrap_u64]; omega
        have e2 : IntKind.u64.wrap ((U : Int) * 256 + (z : Int)) = (U : Int) * 256 + (z : Int) := by rw [IntKind.wrap_u64]; omega
        have e3 : IntKind.u64.wrap (z : Int) = (z : Int) := by rw [IntKind.wrap_u64]; omega
        clear hz HU HUB
        go_wp2
        go_round
        case rel => exact ⟨4, U * 256 + z, by omega, by first | rfl | (simp; done) | (congr 1; simp; omega) | (congr 1; omega), by first | rfl | simp, HN, HNB⟩
        case measure => first | (simp [intOf]; done) | (simp [intOf]; omega)
      · have hz : l[p + 5]? = some (l[p + 5]'(by have := EM.out; omega)) := List.getElem?_eq_getElem _
        generalize l[p + 5]'(by have := EM.out; omega) = z at *
        have a0 := HBW.out.c (p + 5) z hz
        skip
        have hz8 := HBW.out.lt z (List.mem_of_getElem? hz)
        have HN : Hid (U * 256 + z = numL (((l.drop p).take 8).drop 5)) := Lib.hid (by have h0 := numL_at l p 8 5 z hz (by decide); have h1 := HU.out; simp only [Nat.reduceAdd] at h0; omega)
        have hUB : U < 65536 := HUB.out
        have HNB : Hid (U * 256 + z < 256 ^ (8 - 5)) := Lib.hid (by rw [show (256 : Nat) ^ (8 - 5) = 16777216 from rfl]; omega)
        have e1 : IntKind.u64.wrap ((U : Int) * 256) = (U : Int) * 256 := by rw [IntKind.wrap_u64]; omega
        have e2 : IntKind.u64.wrap ((U : Int) * 256 + (z : Int)) = (U : Int) * 256 + (z : Int) := by rw [IntKind.wrap_u64]; omega
        have e3 : IntKind.u64.wrap (z : Int) = (z : Int) := by rw [IntKind.wrap_u64]; omega
        clear hz HU HUB
        go_wp2
        go_round
        case rel => exact ⟨5, U * 256 + z, by omega, by first | rfl | (simp; done) | (congr 1; simp; omega) | (congr 1; omega), by first | rfl | simp, HN, HNB⟩
        case measure => first | (simp [intOf]; done) | (simp [intOf]; omega)
      · have hz : l[p + 6]? = some (l[p + 6]'(by have := EM.out; omega)) := List.getElem?_eq_getElem _
        generalize l[p + 6]'(by have := EM.out; omega) = z at *
        have a0 := HBW.out.c (p + 6) z hz
        skip
        have hz8 := HBW.out.lt z (List.mem_of_getElem? hz)
        have HN : Hid (U * 256 + z = numL (((l.drop p).take 8).drop 6)) := Lib.hid (by have h0 := numL_at l p 8 6 z hz (by decide); have h1 := HU.out; simp only [Nat.reduceAdd] at h0; omega)
        have hUB : U < 256 := HUB.out
        have HNB : Hid (U * 256 + z < 256 ^ (8 - 6)) := Lib.hid (by rw [show (256 : Nat) ^ (8 - 6) = 65536 from rfl]; omega)
        have e1 : IntKind.u64.wrap ((U : Int) * 256) = (U : Int) * 256 := by rw [IntKind.wrap_u64]; omega
        have e2 : IntKind.u64.wrap ((U : Int) * 256 + (z : Int)) = (U : Int) * 256 + (z : Int) := by rw [IntKind.wrap_u64]; omega
        have e3 : IntKind.u64.wrap (z : Int) = (z : Int) := by rw [IntKind.wrap_u64]; omega
        clear hz HU HUB
        go_wp2
        go_round
        case rel => exact ⟨6, U * 256 + z, by omega, by first | rfl | (simp; done) | (congr 1; simp; omega) | (congr 1; omega), by first | rfl | simp, HN, HNB⟩
        case measure => first | (simp [intOf]; done) | (simp [intOf]; omega)
      · have hz : l[p + 7]? = some (l[p + 7]'(by have := EM.out; omega)) := List.getElem?_eq_getElem _
        generalize l[p + 7]'(by have := EM.out; omega) = z at *
        have a0 := HBW.out.c (p + 7) z hz
        skip
        have hz8 := HBW.out.lt z (List.mem_of_getElem? hz)
        have HN : Hid (U * 256 + z = numL (((l.drop p).take 8).drop 7)) := Lib.hid (by have h0 := numL_at l p 8 7 z hz (by decide); have h1 := HU.out; simp only [Nat.reduceAdd] at h0; omega)
        have hUB : U < 1 := HUB.out
        have HNB : Hid (U * 256 + z < 256 ^ (8 - 7)) := Lib.hid (by rw [show (256 : Nat) ^ (8 - 7) = 256 from rfl]; omega)
        have e1 : IntKind.u64.wrap ((U : Int) * 256) = (U : Int) * 256 := by rw [IntKind.wrap_u64]; omega
        have e2 : IntKind.u64.wrap ((U : Int) * 256 + (z : Int)) = (U : Int) * 256 + (z : Int) := by rw [IntKind.wrap_u64]; omega
        have e3 : IntKind.u64.wrap (z : Int) = (z : Int) := by rw [IntKind.wrap_u64]; omega
        clear hz HU HUB
        go_wp2
        go_round
        case rel => exact ⟨7, U * 256 + z, by omega, by first | rfl | (simp; done) | (congr 1; simp; omega) | (congr 1; omega), by first | rfl | simp, HN, HNB⟩
        case measure => first | (simp [intOf]; done) | (simp [intOf]; omega)

set_option maxRecDepth 100000 in
set_option maxHeartbeats 4000000 in
theorem one_3 (b off cap : Nat) (l : List Nat) (p : Nat) (hp : p ≤ l.length) (hln : l.length ≤ 17592186044416) (hcap : l.length ≤ cap) (hcm : cap ≤ 9223372036854775807) (w : World) (hA : IsB w b off l) :
    Calls Try.prog 26 #[.int .i64 3, .slice (some ⟨b, off, none⟩) l.length cap, .int .i64 (p : Nat)] w fun e w' => OneOk w (rone 3 l p) e w' := by
  generalize hP : (fun (e : Ending) (w' : World) => OneOk w (rone 3 l p) e w') = P
  have hbad : ∀ (c : Int), c ≠ 0 → (rone 3 l p).1 = c → ∀ (k n : Int) (s : ByteArray) (q : Nat) (w' : World), Below w.heap.size w w' → P (.returned (.tuple #[Vv k n s, .int .i64 (q : Nat), .int .i64 c])) w' := by
    intro c hc hX k n s q w' h; rw [← hP]; exact OneOk.bad c hc hX k n s q h
  have hgood : ∀ (k n : Int) (s : ByteArray) (q : Nat), rone 3 l p = (0, (k, n, s), q) → ∀ (w' : World), Below w.heap.size w w' → P (.returned (.tuple #[Vv k n s, .int .i64 (q : Nat), .int .i64 0])) w' := by
    intro k n s q hX w' h; rw [← hP]; exact OneOk.good k n s q hX h
  have HBAD := Lib.hid hbad
  have HGOOD := Lib.hid hgood
  have HB := Lib.hid hA
  clear hP hbad hgood hA
  have HC := Lib.hid refcanon_any
  by_cases hs : l.length < p + 8
  · have HS := Lib.hid (rone_short 3 l p (by decide) hs)
    have hs1 : (l.length : Int) - (p : Int) < 8 := by omega
    have hlm : (l.length : Int) ≤ 17592186044416 := by omega
    have hpp : (p : Int) ≤ (l.length : Int) := by omega
    generalize l.length = m at *
    go_enter Try.func26, Try.ntmps26
    go_upto_region 2 with fail
    have k0 := two_boxes w
    generalize (w.alloc (Ob 0 0 Em)).alloc (Ob 0 0 Em) = wb at *
    have r1 := k0.kp
    obtain ⟨⟨z0, y0⟩, ⟨z1, y1⟩, ⟨z2, y2⟩⟩ := And.intro r1.hd (And.intro r1.tl.hd r1.tl.tl.hd)
    have n0 := r1.tl.tl.tl.hd.1
    have n1 := r1.tl.tl.tl.tl.hd.1
    have n2 := r1.tl.tl.tl.tl.tl.hd.1
    have KK := Lib.hid k0
    clear r1 k0
    go_wp2
    exact bodyPost_ret (v := .tuple #[Vv 0 0 Em, .int .i64 (((p : Nat) : Int)), .int .i64 3]) (by simp [results, Try.results26, go_sem, z0, z1, z2, Vv]) rfl (HBAD.out 3 (by decide) HS.out 0 0 Em p _ (box_out 0 0 Em KK.out (Nat.le_refl _)))
  · have hs1 : decide ((l.length : Int) - (p : Int) < 8) = false := by simp; omega
    have hs2 : ¬ ((l.length : Int) - (p : Int) < 8) := by omega
    have hlm : (l.length : Int) ≤ 17592186044416 := by omega
    have hpp : (p : Int) + 8 ≤ (l.length : Int) := by omega
    obtain ⟨m, em⟩ : ∃ m, l.length = m := ⟨_, rfl⟩
    have EM := Lib.hid em
    have HSN := Lib.hid hs
    rw [em] at hp hln hcap hs1 hs2 hlm hpp ⊢
    clear em hs
    go_enter Try.func26, Try.ntmps26
    go_upto_region 2 with fail
    have k0 := two_boxes w
    generalize (w.alloc (Ob 0 0 Em)).alloc (Ob 0 0 Em) = wb at *
    have r1 := k0.kp
    obtain ⟨⟨z0, y0⟩, ⟨z1, y1⟩, ⟨z2, y2⟩⟩ := And.intro r1.hd (And.intro r1.tl.hd r1.tl.tl.hd)
    have n0 := r1.tl.tl.tl.hd.1
    have n1 := r1.tl.tl.tl.tl.hd.1
    have n2 := r1.tl.tl.tl.tl.tl.hd.1
    have KK := Lib.hid k0
    clear r1 k0
    have HBW := Lib.hid (HB.out.below (KK.out.bel))
    go_wp2
    go_loop [11, 12] (fun u k => ∃ j U : Nat, j ≤ 8 ∧ u = .int .u64 U ∧ k = .int .i64 ((j : Int) - 1) ∧ Hid (U = numL (((l.drop p).take 8).drop j)) ∧ Hid (U < 256 ^ (8 - j))) (fun _ k => (intOf k + 1).toNat)
    case atStart => exact ⟨8, 0, Nat.le_refl _, rfl, by first | rfl | simp, Lib.hid (numL_end l p 8).symm, Lib.hid (by simp)⟩
    case round =>
      obtain ⟨j, U, hj, rfl, rfl, HU, HUB⟩ := hrel
      have hjc : j = 0 ∨ j = 1 ∨ j = 2 ∨ j = 3 ∨ j = 4 ∨ j = 5 ∨ j = 6 ∨ j = 7 ∨ j = 8 := by omega
      clear hj
      rcases hjc with rfl | rfl | rfl | rfl | rfl | rfl | rfl | rfl | rfl
      · have hu : numL ((l.drop p).take 8) = U := HU.out.symm
        have hUB : U < 18446744073709551616 := HUB.out
        clear HU HUB
        have e9 := sgn_wrap hUB
        by_cases hc : PCanon (sgn U) = sgn U
        · have HX := Lib.hid (rone_3 l p U HSN.out hu hc)
          have hcan := HC.out (sgn U)
          have h1 : (PCanon (sgn U) != sgn U) = false := by simpa using hc
          generalize sgn U = S at *
          generalize PCanon S = pc at *
          have HCN := Lib.hid hcan
          clear hu hc hcan
          go_wp2_with (first | (go_at_call 31; refine (HCN.out _).mono ?_; rintro x w1 ⟨rfl, rfl⟩))
          exact bodyPost_ret (v := .tuple #[Vv 3 S Em, .int .i64 (((p + 8 : Nat) : Int)), .int .i64 0]) (by simp [results, Try.results26, go_sem, z0, z1, z2, Vv]) rfl (HGOOD.out 3 S Em (p + 8) HX.out _ (box_out 3 S Em KK.out (Nat.le_refl _)))
        · have HX := Lib.hid (rone_3bad l p U HSN.out hu hc)
          have hcan := HC.out (sgn U)
          have h1 : (PCanon (sgn U) != sgn U) = true := by simpa using hc
          generalize sgn U = S at *
          generalize PCanon S = pc at *
          have HCN := Lib.hid hcan
          clear hu hc hcan
          go_wp2_with (first | (go_at_call 31; refine (HCN.out _).mono ?_; rintro x w1 ⟨rfl, rfl⟩))
          exact bodyPost_ret (v := .tuple #[Vv 0 0 Em, .int .i64 (((p + 8 : Nat) : Int)), .int .i64 2]) (by simp [results, Try.results26, go_sem, z0, z1, z2, Vv]) rfl (HBAD.out 2 (by decide) HX.out 0 0 Em (p + 8) _ (box_out 0 0 Em KK.out (Nat.le_refl _)))
      · have hz : l[p + 0]? = some (l[p + 0]'(by have := EM.out; omega)) := List.getElem?_eq_getElem _
        generalize l[p + 0]'(by have := EM.out; omega) = z at *
        have a0 := HBW.out.c (p + 0) z hz
        rw [Nat.add_zero] at a0
        have hz8 := HBW.out.lt z (List.mem_of_getElem? hz)
        have HN : Hid (U * 256 + z = numL (((l.drop p).take 8).drop 0)) := Lib.hid (by have h0 := numL_at l p 8 0 z hz (by decide); have h1 := HU.out; simp only [Nat.reduceAdd] at h0; omega)
        have hUB : U < 72057594037927936 := HUB.out
        have HNB : Hid (U * 256 + z < 256 ^ (8 - 0)) := Lib.hid (by rw [show (256 : Nat) ^ (8 - 0) = 18446744073709551616 from rfl]; omega)
        have e1 : IntKind.u64.wrap ((U : Int) * 256) = (U : Int) * 256 := by rw [IntKind.wrap_u64]; omega
        have e2 : IntKind.u64.wrap ((U : Int) * 256 + (z : Int)) = (U : Int) * 256 + (z : Int) := by rw [IntKind.wrap_u64]; omega
        have e3 : IntKind.u64.wrap (z : Int) = (z : Int) := by rw [IntKind.wrap_u64]; omega
        clear hz HU HUB
        go_wp2
        go_round
        case rel => exact ⟨0, U * 256 + z, by omega, by first | rfl | (simp; done) | (congr 1; simp; omega) | (congr 1; omega), by first | rfl | simp, HN, HNB⟩
        case measure => first | (simp [intOf]; done) | (simp [intOf]; omega)
      · have hz : l[p + 1]? = some (l[p + 1]'(by have := EM.out; omega)) := List.getElem?_eq_getElem _
        generalize l[p + 1]'(by have := EM.out; omega) = z at *
        have a0 := HBW.out.c (p + 1) z hz
        skip
        have hz8 := HBW.out.lt z (List.mem_of_getElem? hz)
        have HN : Hid (U * 256 + z = numL (((l.drop p).take 8).drop 1)) := Lib.hid (by have h0 := numL_at l p 8 1 z hz (by decide); have h1 := HU.out; simp only [Nat.reduceAdd] at h0; omega)
        have hUB : U < 281474976710656 := HUB.out
        have HNB : Hid (U * 256 + z < 256 ^ (8 - 1)) := Lib.hid (by rw [show (256 : Nat) ^ (8 - 1) = 72057594037927936 from rfl]; omega)
        have e1 : IntKind.u64.wrap ((U : Int) * 256) = (U : Int) * 256 := by rw [IntKind.wrap_u64]; omega
        have e2 : IntKind.u64.wrap ((U : Int) * 256 + (z : Int)) = (U : Int) * 256 + (z : Int) := by rw [IntKind.wrap_u64]; omega
        have e3 : IntKind.u64.wrap (z : Int) = (z : Int) := by rw [IntKind.wrap_u64]; omega
        clear hz HU HUB
        go_wp2
        go_round
        case rel => exact ⟨1, U * 256 + z, by omega, by first | rfl | (simp; done) | (congr 1; simp; omega) | (congr 1; omega), by first | rfl | simp, HN, HNB⟩
        case measure => first | (simp [intOf]; done) | (simp [intOf]; omega)
      · have hz : l[p + 2]? = some (l[p + 2]'(by have := EM.out; omega)) := List.getElem?_eq_getElem _
        generalize l[p + 2]'(by have := EM.out; omega) = z at *
        have a0 := HBW.out.c (p + 2) z hz
        skip
        have hz8 := HBW.out.lt z (List.mem_of_getElem? hz)
        have HN : Hid (U * 256 + z = numL (((l.drop p).take 8).drop 2)) := Lib.hid (by have h0 := numL_at l p 8 2 z hz (by decide); have h1 := HU.out; simp only [Nat.reduceAdd] at h0; omega)
        have hUB : U < 1099511627776 := HUB.out
        have HNB : Hid (U * 256 + z < 256 ^ (8 - 2)) := Lib.hid (by rw [show (256 : Nat) ^ (8 - 2) = 281474976710656 from rfl]; omega)
        have e1 : IntKind.u64.wrap ((U : Int) * 256) = (U : Int) * 256 := by rw [IntKind.wrap_u64]; omega
        have e2 : IntKind.u64.wrap ((U : Int) * 256 + (z : Int)) = (U : Int) * 256 + (z : Int) := by rw [IntKind.wrap_u64]; omega
        have e3 : IntKind.u64.wrap (z : Int) = (z : Int) := by rw [IntKind.wrap_u64]; omega
        clear hz HU HUB
        go_wp2
        go_round
        case rel => exact ⟨2, U * 256 + z, by omega, by first | rfl | (simp; done) | (congr 1; simp; omega) | (congr 1; omega), by first | rfl | simp, HN, HNB⟩
        case measure => first | (simp [intOf]; done) | (simp [intOf]; omega)
      · have hz : l[p + 3]? = some (l[p + 3]'(by have := EM.out; omega)) := List.getElem?_eq_getElem _
        generalize l[p + 3]'(by have := EM.out; omega) = z at *
        have a0 := HBW.out.c (p + 3) z hz
        skip
        have hz8 := HBW.out.lt z (List.mem_of_getElem? hz)
        have HN : Hid (U * 256 + z = numL (((l.drop p).take 8).drop 3)) := Lib.hid (by have h0 := numL_at l p 8 3 z hz (by decide); have h1 := HU.out; simp only [Nat.reduceAdd] at h0; omega)
        have hUB : U < 4294967296 := HUB.out
        have HNB : Hid (U * 256 + z < 256 ^ (8 - 3)) := Lib.hid (by rw [show (256 : Nat) ^ (8 - 3) = 1099511627776 from rfl]; omega)
        have e1 : IntKind.u64.wrap ((U : Int) * 256) = (U : Int) * 256 := by rw [IntKind.wrap_u64]; omega
        have e2 : IntKind.u64.wrap ((U : Int) * 256 + (z : Int)) = (U : Int) * 256 + (z : Int) := by rw [IntKind.wrap_u64]; omega
        have e3 : IntKind.u64.wrap (z : Int) = (z : Int) := by rw [IntKind.wrap_u64]; omega
        clear hz HU HUB
        go_wp2
        go_round
        case rel => exact ⟨3, U * 256 + z, by omega, by first | rfl | (simp; done) | (congr 1; simp; omega) | (congr 1; omega), by first | rfl | simp, HN, HNB⟩
        case measure => first | (simp [intOf]; done) | (simp [intOf]; omega)
      · have hz : l[p + 4]? = some (l[p + 4]'(by have := EM.out; omega)) := List.getElem?_eq_getElem _
        generalize l[p + 4]'(by have := EM.out; omega) = z at *
        have a0 := HBW.out.c (p + 4) z hz
        skip
        have hz8 := HBW.out.lt z (List.mem_of_getElem? hz)
        have HN : Hid (U * 256 + z = numL (((l.drop p).take 8).drop 4)) := Lib.hid (by have h0 := numL_at l p 8 4 z hz (by decide); have h1 := HU.out; simp only [Nat.reduceAdd] at h0; omega)
        have hUB : U < 16777216 := HUB.out
        have HNB : Hid (U * 256 + z < 256 ^ (8 - 4)) := Lib.hid (by rw [show (256 : Nat) ^ (8 - 4) = 4294967296 from rfl]; omega)
        have e1 : IntKind.u64.wrap ((U : Int) * 256) = (U : Int) * 256 := by rw [IntKind.wrap_u64]; omega
        have e2 : IntKind.u64.wrap ((U : Int) * 256 + (z : Int)) = (U : Int) * 256 + (z : Int) := by rw [IntKind.wrap_u64]; omega
        have e3 : IntKind.u64.wrap (z : Int) = (z : Int) := by rw [IntKind.wrap_u64]; omega
        clear hz HU HUB
        go_wp2
        go_round
        case rel => exact ⟨4, U * 256 + z, by omega, by first | rfl | (simp; done) | (congr 1; simp; omega) | (congr 1; omega), by first | rfl | simp, HN, HNB⟩
        case measure => first | (simp [intOf]; done) | (simp [intOf]; omega)
      · have hz : l[p + 5]? = some (l[p + 5]'(by have := EM.out; omega)) := List.getElem?_eq_getElem _
        generalize l[p + 5]'(by have := EM.out; omega) = z at *
        have a0 := HBW.out.c (p + 5) z hz
        skip
        have hz8 := HBW.out.lt z (List.mem_of_getElem? hz)
        have HN : Hid (U * 256 + z = numL (((l.drop p).take 8).drop 5)) := Lib.hid (by have h0 := numL_at l p 8 5 z hz (by decide); have h1 := HU.out; simp only [Nat.reduceAdd] at h0; omega)
        have hUB : U < 65536 := HUB.out
        have HNB : Hid (U * 256 + z < 256 ^ (8 - 5)) := Lib.hid (by rw [show (256 : Nat) ^ (8 - 5) = 16777216 from rfl]; omega)
        have e1 : IntKind.u64.wrap ((U : Int) * 256) = (U : Int) * 256 := by rw [IntKind.wrap_u64]; omega
        have e2 : IntKind.u64.wrap ((U : Int) * 256 + (z : Int)) = (U : Int) * 256 + (z : Int) := by rw [IntKind.wrap_u64]; omega
        have e3 : IntKind.u64.wrap (z : Int) = (z : Int) := by rw [IntKind.wrap_u64]; omega
        clear hz HU HUB
        go_wp2
        go_round
        case rel => exact ⟨5, U * 256 + z, by omega, by first | rfl | (simp; done) | (congr 1; simp; omega) | (congr 1; omega), by first | rfl | simp, HN, HNB⟩
        case measure => first | (simp [intOf]; done) | (simp [intOf]; omega)
      · have hz : l[p + 6]? = some (l[p + 6]'(by have := EM.out; omega)) := List.getElem?_eq_getElem _
        generalize l[p + 6]'(by have := EM.out; omega) = z at *
        have a0 := HBW.out.c (p + 6) z hz
        skip
        have hz8 := HBW.out.lt z (List.mem_of_getElem? hz)
        have HN : Hid (U * 256 + z = numL (((l.drop p).take 8).drop 6)) := Lib.hid (by have h0 := numL_at l p 8 6 z hz (by decide); have h1 := HU.out; simp only [Nat.reduceAdd] at h0; omega)
        have hUB : U < 256 := HUB.out
        have HNB : Hid (U * 256 + z < 256 ^ (8 - 6)) := Lib.hid (by rw [show (256 : Nat) ^ (8 - 6) = 65536 from rfl]; omega)
        have e1 : IntKind.u64.wrap ((U : Int) * 256) = (U : Int) * 256 := by rw [IntKind.wrap_u64]; omega
        have e2 : IntKind.u64.wrap ((U : Int) * 256 + (z : Int)) = (U : Int) * 256 + (z : Int) := by rw [IntKind.wrap_u64]; omega
        have e3 : IntKind.u64.wrap (z : Int) = (z : Int) := by rw [IntKind.wrap_u64]; omega
        clear hz HU HUB
        go_wp2
        go_round
        case rel => exact ⟨6, U * 256 + z, by omega, by first | rfl | (simp; done) | (congr 1; simp; omega) | (congr 1; omega), by first | rfl | simp, HN, HNB⟩
        case measure => first | (simp [intOf]; done) | (simp [intOf]; omega)
      · have hz : l[p + 7]? = some (l[p + 7]'(by have := EM.out; omega)) := List.getElem?_eq_getElem _
        generalize l[p + 7]'(by have := EM.out; omega) = z at *
        have a0 := HBW.out.c (p + 7) z hz
        skip
        have hz8 := HBW.out.lt z (List.mem_of_getElem? hz)
        have HN : Hid (U * 256 + z = numL (((l.drop p).take 8).drop 7)) := Lib.hid (by have h0 := numL_at l p 8 7 z hz (by decide); have h1 := HU.out; simp only [Nat.reduceAdd] at h0; omega)
        have hUB : U < 1 := HUB.out
        have HNB : Hid (U * 256 + z < 256 ^ (8 - 7)) := Lib.hid (by rw [show (256 : Nat) ^ (8 - 7) = 256 from rfl]; omega)
        have e1 : IntKind.u64.wrap ((U : Int) * 256) = (U : Int) * 256 := by rw [IntKind.wrap_u64]; omega
        have e2 : IntKind.u64.wrap ((U : Int) * 256 + (z : Int)) = (U : Int) * 256 + (z : Int) := by rw [IntKind.wrap_u64]; omega
        have e3 : IntKind.u64.wrap (z : Int) = (z : Int) := by rw [IntKind.wrap_u64]; omega
        clear hz HU HUB
        go_wp2
        go_round
        case rel => exact ⟨7, U * 256 + z, by omega, by first | rfl | (simp; done) | (congr 1; simp; omega) | (congr 1; omega), by first | rfl | simp, HN, HNB⟩
        case measure => first | (simp [intOf]; done) | (simp [intOf]; omega)

set_option maxRecDepth 100000 in
set_option maxHeartbeats 4000000 in
theorem one_4 (b off cap : Nat) (l : List Nat) (p : Nat) (hp : p ≤ l.length) (hln : l.length ≤ 17592186044416) (hcap : l.length ≤ cap) (hcm : cap ≤ 9223372036854775807) (w : World) (hA : IsB w b off l) :
    Calls Try.prog 26 #[.int .i64 4, .slice (some ⟨b, off, none⟩) l.length cap, .int .i64 (p : Nat)] w fun e w' => OneOk w (rone 4 l p) e w' := by
  generalize hP : (fun (e : Ending) (w' : World) => OneOk w (rone 4 l p) e w') = P
  have hbad : ∀ (c : Int), c ≠ 0 → (rone 4 l p).1 = c → ∀ (k n : Int) (s : ByteArray) (q : Nat) (w' : World), Below w.heap.size w w' → P (.returned (.tuple #[Vv k n s, .int .i64 (q : Nat), .int .i64 c])) w' := by
    intro c hc hX k n s q w' h; rw [← hP]; exact OneOk.bad c hc hX k n s q h
  have hgood : ∀ (k n : Int) (s : ByteArray) (q : Nat), rone 4 l p = (0, (k, n, s), q) → ∀ (w' : World), Below w.heap.size w w' → P (.returned (.tuple #[Vv k n s, .int .i64 (q : Nat), .int .i64 0])) w' := by
    intro k n s q hX w' h; rw [← hP]; exact OneOk.good k n s q hX h
  have HBAD := Lib.hid hbad
  have HGOOD := Lib.hid hgood
  have HB := Lib.hid hA
  clear hP hbad hgood hA
  have HC := Lib.hid refcanon_any
  by_cases hs : l.length < p + 1
  · have HS := Lib.hid (rone_short 4 l p (by decide) hs)
    have hs1 : (l.length : Int) - (p : Int) < 1 := by omega
    have hlm : (l.length : Int) ≤ 17592186044416 := by omega
    have hpp : (p : Int) ≤ (l.length : Int) := by omega
    generalize l.length = m at *
    go_enter Try.func26, Try.ntmps26
    go_upto_region 2 with fail
    have k0 := two_boxes w
    generalize (w.alloc (Ob 0 0 Em)).alloc (Ob 0 0 Em) = wb at *
    have r1 := k0.kp
    obtain ⟨⟨z0, y0⟩, ⟨z1, y1⟩, ⟨z2, y2⟩⟩ := And.intro r1.hd (And.intro r1.tl.hd r1.tl.tl.hd)
    have n0 := r1.tl.tl.tl.hd.1
    have n1 := r1.tl.tl.tl.tl.hd.1
    have n2 := r1.tl.tl.tl.tl.tl.hd.1
    have KK := Lib.hid k0
    clear r1 k0
    go_wp2
    exact bodyPost_ret (v := .tuple #[Vv 0 0 Em, .int .i64 (((p : Nat) : Int)), .int .i64 3]) (by simp [results, Try.results26, go_sem, z0, z1, z2, Vv]) rfl (HBAD.out 3 (by decide) HS.out 0 0 Em p _ (box_out 0 0 Em KK.out (Nat.le_refl _)))
  · have hs1 : decide ((l.length : Int) - (p : Int) < 1) = false := by simp; omega
    have hs2 : ¬ ((l.length : Int) - (p : Int) < 1) := by omega
    have hlm : (l.length : Int) ≤ 17592186044416 := by omega
    have hpp : (p : Int) + 1 ≤ (l.length : Int) := by omega
    obtain ⟨m, em⟩ : ∃ m, l.length = m := ⟨_, rfl⟩
    have EM := Lib.hid em
    have HSN := Lib.hid hs
    rw [em] at hp hln hcap hs1 hs2 hlm hpp ⊢
    clear em hs
    go_enter Try.func26, Try.ntmps26
    go_upto_region 2 with fail
    have k0 := two_boxes w
    generalize (w.alloc (Ob 0 0 Em)).alloc (Ob 0 0 Em) = wb at *
    have r1 := k0.kp
    obtain ⟨⟨z0, y0⟩, ⟨z1, y1⟩, ⟨z2, y2⟩⟩ := And.intro r1.hd (And.intro r1.tl.hd r1.tl.tl.hd)
    have n0 := r1.tl.tl.tl.hd.1
    have n1 := r1.tl.tl.tl.tl.hd.1
    have n2 := r1.tl.tl.tl.tl.tl.hd.1
    have KK := Lib.hid k0
    clear r1 k0
    have HBW := Lib.hid (HB.out.below (KK.out.bel))
    go_wp2
    go_loop [11, 12] (fun u k => ∃ j U : Nat, j ≤ 1 ∧ u = .int .u64 U ∧ k = .int .i64 ((j : Int) - 1) ∧ Hid (U = numL (((l.drop p).take 1).drop j)) ∧ Hid (U < 256 ^ (1 - j))) (fun _ k => (intOf k + 1).toNat)
    case atStart => exact ⟨1, 0, Nat.le_refl _, rfl, by first | rfl | simp, Lib.hid (numL_end l p 1).symm, Lib.hid (by simp)⟩
    case round =>
      obtain ⟨j, U, hj, rfl, rfl, HU, HUB⟩ := hrel
      have hjc : j = 0 ∨ j = 1 := by omega
      clear hj
      rcases hjc with rfl | rfl
      · have hu : numL ((l.drop p).take 1) = U := HU.out.symm
        have hUB : U < 256 := HUB.out
        clear HU HUB
        by_cases h1 : 200 < U
        · have HX := Lib.hid (rone_4big l p U HSN.out hu h1)
          have h2 : (200 : Int) < (U : Int) := by omega
          clear hu
          go_wp2
          exact bodyPost_ret (v := .tuple #[Vv 0 0 Em, .int .i64 (((p + 1 : Nat) : Int)), .int .i64 1]) (by simp [results, Try.results26, go_sem, z0, z1, z2, Vv]) rfl (HBAD.out 1 (by decide) HX.out 0 0 Em (p + 1) _ (box_out 0 0 Em KK.out (Nat.le_refl _)))
        · have h2 : decide ((200 : Int) < (U : Int)) = false := by simp; omega
          have h3 : (U : Int) ≤ 200 := by omega
          have h4 : IntKind.i64.wrap (U : Int) = (U : Int) := by rw [IntKind.wrap_i64]; omega
          have h5 : ¬ 200 < (U : Int) := by omega
          by_cases g1 : l.length < p + 1 + U
          · have HX := Lib.hid (rone_4short l p U HSN.out hu h1 g1)
            have g2 : (m : Int) - ((p : Int) + 1) < (U : Int) := by have := EM.out; omega
            clear hu h1 g1
            go_wp2
            exact bodyPost_ret (v := .tuple #[Vv 0 0 Em, .int .i64 (((p + 1 : Nat) : Int)), .int .i64 3]) (by simp [results, Try.results26, go_sem, z0, z1, z2, Vv]) rfl (HBAD.out 3 (by decide) HX.out 0 0 Em (p + 1) _ (box_out 0 0 Em KK.out (Nat.le_refl _)))
          · have HX := Lib.hid (rone_4 l p U HSN.out hu h1 g1)
            have g2 : decide ((m : Int) - ((p : Int) + 1) < (U : Int)) = false := by have := EM.out; simp; omega
            have g3 : ¬ ((m : Int) - ((p : Int) + 1) < (U : Int)) := by have := EM.out; omega
            have g4 : (p : Int) + 1 + (U : Int) ≤ (m : Int) := by omega
            have hlen : ((l.drop (p + 1)).take U).length = U := by rw [List.length_take, List.length_drop, EM.out]; omega
            by_cases hcp : cap = p + 1
            · subst hcp
              obtain rfl : U = 0 := by omega
              have hcv := str_arg (A := some ⟨b, off, none⟩) (c := 0) (.inr rfl) (by intro h; cases h) (HBW.out.take 0)
              rw [List.take_zero] at hcv
              rw [List.take_zero] at HX
              have hcv2 : (convert 27 9 (.slice (some ⟨b, off, none⟩) 0 0)).run Try.prog wb = .ok (.string (strB [])) wb := hcv
              generalize strB [] = ts at *
              clear hu h1 g1 hlen hcv
              go_wp2
              exact bodyPost_ret (v := .tuple #[Vv 4 0 ts, .int .i64 (((p + 1 + 0 : Nat) : Int)), .int .i64 0]) (by simp [results, Try.results26, go_sem, z0, z1, z2, Vv]) rfl (HGOOD.out 4 0 ts (p + 1 + 0) HX.out _ (box_out 4 0 ts KK.out (Nat.le_refl _)))
            · have hcv := str_arg (A := some ⟨b, off + (p + 1), none⟩) (c := cap - (p + 1)) (.inr rfl) (by intro h; cases h) ((HBW.out.drop (p + 1)).take U)
              rw [hlen] at hcv
              generalize strB ((l.drop (p + 1)).take U) = ts at *
              clear hu h1 g1 hlen
              go_wp2
              exact bodyPost_ret (v := .tuple #[Vv 4 0 ts, .int .i64 (((p + 1 + U : Nat) : Int)), .int .i64 0]) (by simp [results, Try.results26, go_sem, z0, z1, z2, Vv]) rfl (HGOOD.out 4 0 ts (p + 1 + U) HX.out _ (box_out 4 0 ts KK.out (Nat.le_refl _)))
      · have hz : l[p + 0]? = some (l[p + 0]'(by have := EM.out; omega)) := List.getElem?_eq_getElem _
        generalize l[p + 0]'(by have := EM.out; omega) = z at *
        have a0 := HBW.out.c (p + 0) z hz
        rw [Nat.add_zero] at a0
        have hz8 := HBW.out.lt z (List.mem_of_getElem? hz)
        have HN : Hid (U * 256 + z = numL (((l.drop p).take 1).drop 0)) := Lib.hid (by have h0 := numL_at l p 1 0 z hz (by decide); have h1 := HU.out; simp only [Nat.reduceAdd] at h0; omega)
        have hUB : U < 1 := HUB.out
        have HNB : Hid (U * 256 + z < 256 ^ (1 - 0)) := Lib.hid (by rw [show (256 : Nat) ^ (1 - 0) = 256 from rfl]; omega)
        have e1 : IntKind.u64.wrap ((U : Int) * 256) = (U : Int) * 256 := by rw [IntKind.wrap_u64]; omega
        have e2 : IntKind.u64.wrap ((U : Int) * 256 + (z : Int)) = (U : Int) * 256 + (z : Int) := by rw [IntKind.wrap_u64]; omega
        have e3 : IntKind.u64.wrap (z : Int) = (z : Int) := by rw [IntKind.wrap_u64]; omega
        clear hz HU HUB
        go_wp2
        go_round
        case rel => exact ⟨0, U * 256 + z, by omega, by first | rfl | (simp; done) | (congr 1; simp; omega) | (congr 1; omega), by first | rfl | simp, HN, HNB⟩
        case measure => first | (simp [intOf]; done) | (simp [intOf]; omega)

end Go.Proofs.Ytpknoclnmhomiab
