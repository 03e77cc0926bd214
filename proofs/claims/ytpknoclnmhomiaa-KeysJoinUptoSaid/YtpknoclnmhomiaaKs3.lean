/-
  Package keys over the translation: Encode, of any list, right or wrong.
  Conditions: the list lies in memory; its texts are not too long.
-/
import Derived.Test.YtpknoclnmhomiaaKs2
import Derived.Deep.RegionLaw
namespace Go.Proofs.Ytpknoclnmhomiaa
open Go.RowKit Go.Joins Go.ChangeShapes Go.WideShapes
set_option linter.unusedVariables false

theorem step_pushN {ops : Array Oper} {o : Oper} {a : Act} {w : World} {K : Act → World → Prop} {Q : Exit → Act → World → Prop} {E : Prop} (hgd : o.guard = none) (s x : Operand)
    (ho : o.op = .call { callee := .builtin .append, args := #[s, x], argTypes := #[25, 25] })
    (base : Nat) (v : Value) (l : List Nat) (hs : a.eval s = v) (hown : w.ownsRow base 5 1 v l.length (bcells l)) (ad : Addr) (m c : Nat) (r : List Nat) (hx : a.eval x = .slice (some ad) m c) (hm : r.length = m) (hm0 : m ≠ 0)
    (hnews : ∀ j u, (bcells r)[j]? = some u → w.cell? (ad.add j) = some u) (hsz : l.length + m ≤ 70368744177664) (hbase : base ≤ w.heap.size)
    (h : ∀ v' w', OwB w' base v' (l ++ r) → w.grownBy w' v.ownBlock → K (a.put o.dst v') w') : if Region.wanted o (yielded ops a.tmps) = true then Oper.wp Try.prog o a w K Q else E := by
  obtain ⟨i0, hi, hz0, hz1, hz2⟩ := info_parts infoB
  have hw : Region.wanted o (yielded ops a.tmps) = true := by simp [Region.wanted, hgd]
  rw [if_pos hw]
  refine wp_append_own w s x _ ho base 5 i0 _ 1 1 Try.underlying25 hi hz0 hz1 hz2 rfl (by decide) v l.length (bcells l) hs hown ad m c (bcells r) hx (by rw [bcells_length, hm, Nat.mul_one]) hnews (bcells_one r) (by unfold maxLen; omega) (by omega) hbase ?_
  intro v' w' h1 h2 h3
  refine h v' w' ⟨?_, fun e => hm0 (h3.1 e).2⟩ h2
  rw [bcells_app, List.length_append, hm]
  exact h1

/-- a value's bytes behind its kind, whatever the value -/
def vx (k n : Int) (s : ByteArray) : List Nat :=
  if k = 1 then [(n % 256).toNat] else if k = 2 then be8 (n + 9223372036854775808).toNat else if k = 3 then be8 (turnV (plV n)).toNat else if k = 4 then esc (sl s) ++ [0, 1] else []
def keyX (kf nf : Nat → Int) (sf : Nat → ByteArray) : Nat → List Nat
  | 0 => []
  | m + 1 => keyX kf nf sf m ++ ([((kf m + 1) % 256).toNat] ++ vx (kf m) (nf m) (sf m))
theorem vx_right {k n : Int} {s : ByteArray} (h : VCheck k n s = 0) (hi : InI n) : [((k + 1) % 256).toNat] ++ vx k n s = vb k n s := by
  obtain ⟨h0, h4, hr, hs, h2⟩ := vck h
  have e : (k + 1) % 256 = k + 1 := by omega
  unfold vx vb
  rw [e]
  by_cases c : k = 3
  · subst c
    have := turn_plV hi (rgt3 hi hr)
    rw [if_neg (by decide), if_neg (by decide), if_pos rfl, if_neg (by decide), if_neg (by decide), if_pos rfl, this]
    rfl
  · rw [if_neg c, if_neg c]
    rfl
theorem keyX_right (kf nf : Nat → Int) (sf : Nat → ByteArray) : ∀ m, (∀ i, i < m → VCheck (kf i) (nf i) (sf i) = 0 ∧ InI (nf i)) → keyX kf nf sf m = keyB kf nf sf m
  | 0, _ => rfl
  | m + 1, h => by
    unfold keyX keyB
    rw [keyX_right kf nf sf m (fun i hi => h i (by omega)), vx_right (h m (by omega)).1 (h m (by omega)).2]
theorem vx_le (k n : Int) (s : ByteArray) : (vx k n s).length ≤ 2 * s.size + 8 := by
  have h := esc_le (sl s)
  rw [sl_length] at h
  unfold vx
  repeat' split
  all_goals first | (simp [be8]; done) | (simp; omega)
theorem keyX_le (kf nf : Nat → Int) (sf : Nat → ByteArray) : ∀ m, (∀ i, i < m → (sf i).size ≤ 1048576) → (keyX kf nf sf m).length ≤ m * 2097161
  | 0, _ => by simp [keyX]
  | m + 1, h => by
    have h1 := keyX_le kf nf sf m (fun i hi => h i (by omega))
    have h2 := vx_le (kf m) (nf m) (sf m)
    have h3 := h m (by omega)
    unfold keyX
    rw [List.length_append, List.length_append, List.length_singleton]
    omega

set_option maxHeartbeats 2000000 in
theorem appval_any (W : World) (B : Nat) (v : Value) (l : List Nat) (hl : l.length ≤ 35184372088832) (k n : Int) (s : ByteArray) (hi : InI n) (hs : s.size ≤ 1048576) (w : World) (h : Eo W w B v l) :
    Calls Try.prog 24 #[v, Vv k n s] w fun e w' => ∃ v', e = .returned v' ∧ Eo W w' B v' (l ++ vx k n s) := by
  generalize hP : (fun (e : Ending) (w' : World) => ∃ v', e = .returned v' ∧ Eo W w' B v' (l ++ vx k n s)) = P
  have hpost : ∀ (v' : Value) (w' : World), Eo W w' B v' (l ++ vx k n s) → P (.returned v') w' := by
    intro v' w' h; rw [← hP]; exact ⟨v', rfl, h⟩
  have HP := Lib.hid hpost
  have HE := Lib.hid (h.alloc (.cells #[.int .i64 k, .int .i64 n, .string s] 35))
  have HB := Lib.hid (boxV_new w k n s)
  have HN := Lib.hid (fun u hu wx hx => appnum_any W B v l hl u hu wx hx)
  have HT := Lib.hid (fun wx hx => apptext_any W B v l hl s hs wx hx)
  have HPL := Lib.hid (placed_any n hi)
  have HTU := Lib.hid (turn_any (plV n) (plV_in hi))
  have hti := turn_in (plV_in hi)
  have HL := Lib.hid hl
  obtain ⟨i1, i2⟩ := hi
  clear hpost hP h hl
  unfold Vv
  go_enter Try.func24, Try.ntmps24
  go_upto_region 1 with fail
  generalize w.alloc (.cells #[.int .i64 k, .int .i64 n, .string s] 35) = wx at *
  generalize w.heap.size = g at *
  obtain ⟨c0, c1, c2⟩ := HB.out.cells
  by_cases k1 : k = 1
  · subst k1
    have hz : 0 ≤ n % 256 := Int.emod_nonneg _ (by decide)
    go_wp2_with (first | (at_builtin; refine wp_pushN rfl _ _ rfl B _ _ rfl (HE.out.own.alloc _) ⟨wx.heap.size, 0, none⟩ 1 1 [(n % 256).toNat] rfl rfl (by decide) (news1' wx _ _ (by first | rfl | omega | (simp only [IntKind.wrap_u8]; omega))) (by have := HL.out; simp; omega) (HE.out.alloc _).sz ?_; intro v3 w3 hown3 hgrow3; have HE3 := Lib.hid ((HE.out.alloc _).push hown3 hgrow3); clear hgrow3 hown3))
    exact HP.out _ _ HE3.out.eo
  have k1' : (k == 1) = false := by simpa using k1
  by_cases k2 : k = 2
  · subst k2
    obtain ⟨U, hU⟩ : ∃ U, (n + 9223372036854775808).toNat = U := ⟨_, rfl⟩
    obtain ⟨y, hy⟩ : ∃ y : Nat, IntKind.u64.wrap n = (y : Int) := ⟨(IntKind.u64.wrap n).toNat, by rw [IntKind.wrap_u64]; omega⟩
    have hx : bits .xor .u64 (y : Int) 9223372036854775808 = (U : Int) := by
      rw [IntKind.wrap_u64] at hy
      rw [xor_top y (by omega)]
      split <;> omega
    have HU := Lib.hid (HN.out U (by omega))
    have EU := Lib.hid (show vx 2 n s = be8 U by rw [← hU]; rfl)
    clear hU
    go_wp2_with (first | (go_at_call 35; refine (HU.out _ HE.out).mono ?_; rintro x w2 ⟨v2, rfl, h2⟩))
    exact HP.out _ _ (by rw [EU.out]; exact h2.eo)
  have k2' : (k == 2) = false := by simpa using k2
  by_cases k3 : k = 3
  · subst k3
    obtain ⟨U, hU⟩ : ∃ U, (turnV (plV n)).toNat = U := ⟨_, rfl⟩
    have e8 : turnV (plV n) = (U : Int) := by omega
    have HU := Lib.hid (HN.out U (by omega))
    have EU := Lib.hid (show vx 3 n s = be8 U by rw [← hU]; rfl)
    rw [e8] at HTU
    clear hU hti e8
    generalize plV n = q at *
    go_wp2_with (first | (go_at_call 37; refine (HPL.out _).mono ?_; rintro x w1 ⟨rfl, rfl⟩) | (go_at_call 36; refine (HTU.out _).mono ?_; rintro x w1 ⟨rfl, rfl⟩) | (go_at_call 35; refine (HU.out _ HE.out).mono ?_; rintro x w2 ⟨v2, rfl, h2⟩))
    exact HP.out _ _ (by rw [EU.out]; exact h2.eo)
  have k3' : (k == 3) = false := by simpa using k3
  by_cases k4 : k = 4
  · subst k4
    go_wp2_with (first | (go_at_call 38; refine (HT.out _ HE.out).mono ?_; rintro x w2 ⟨v2, rfl, h2⟩))
    exact HP.out _ _ h2.eo
  have k4' : (k == 4) = false := by simpa using k4
  go_wp2_with fail
  exact HP.out _ _ (by unfold vx; rw [if_neg k1, if_neg k2, if_neg k3, if_neg k4, List.append_nil]; exact HE.out)

set_option maxHeartbeats 4000000 in
theorem enc_all (a : Option Addr) (b off m cap : Nat) (kf nf : Nat → Int) (sf : Nat → ByteArray) (hm : m ≤ 4194304) (w : World) (ha : m = 0 ∨ a = some ⟨b, off, none⟩) (hA : IsV w b off m kf nf sf)
    (hr : ∀ i, i < m → InI (nf i) ∧ (sf i).size ≤ 1048576) :
    Calls Try.prog 12 #[.slice a m cap] w fun e w' => ∃ v, e = .returned v ∧ OutB w' w.heap.size v (keyX kf nf sf m) ∧ Below w.heap.size w w' := by
  generalize hP : (fun (e : Ending) (w' : World) => ∃ v, e = .returned v ∧ OutB w' w.heap.size v (keyX kf nf sf m) ∧ Below w.heap.size w w') = P
  have hpost : ∀ (v : Value) (w' : World), Eo w w' w.heap.size v (keyX kf nf sf m) → P (.returned v) w' := by
    intro v w' h; rw [← hP]; exact ⟨v, rfl, h.outB, h.bel⟩
  have HP := Lib.hid hpost
  have HR := Lib.hid hr
  have HA := Lib.hid ha
  clear hpost hP hr ha
  go_enter Try.func12, Try.ntmps12
  go_wp2
  go_loopw [3, 8] (fun v i wr => ∃ k : Nat, k ≤ m ∧ i = .int .i64 k ∧ Eo w wr w.heap.size v (keyX kf nf sf k)) (fun _ i _ => m - (intOf i).toNat)
  case atStart => exact ⟨0, by omega, rfl, Eo.nil w⟩
  case round =>
    obtain ⟨k, hk, rfl, hen⟩ := hrel
    by_cases hlt : k < m
    · obtain rfl : a = some ⟨b, off, none⟩ := by rcases HA.out with h | h; omega; exact h
      have hA' := hA.below hen.bel
      have a0 := hA'.c0 k hlt
      have a1 := hA'.c1 k hlt
      have a2 := hA'.c2 k hlt
      have hkm : (k : Int) < (m : Int) := by omega
      obtain ⟨i1, i2⟩ := HR.out k hlt
      have hl0 := keyX_le kf nf sf k (fun i hi => (HR.out i (by omega)).2)
      obtain ⟨kk, ek⟩ : ∃ x, kf k = x := ⟨_, rfl⟩
      obtain ⟨nn, en⟩ : ∃ x, nf k = x := ⟨_, rfl⟩
      obtain ⟨ss, es⟩ : ∃ x, sf k = x := ⟨_, rfl⟩
      rw [ek] at a0
      rw [en] at a1 i1
      rw [es] at a2 i2
      have ENXT : Hid (∀ v wx, Eo w wx w.heap.size v (keyX kf nf sf k ++ [((kk + 1) % 256).toNat] ++ vx kk nn ss) → Eo w wx w.heap.size v (keyX kf nf sf (k + 1))) := fun v wx h => by
        have e : keyX kf nf sf (k + 1) = keyX kf nf sf k ++ [((kk + 1) % 256).toNat] ++ vx kk nn ss := by rw [← ek, ← en, ← es, List.append_assoc]; rfl
        rw [e]; exact h
      have HE := Lib.hid (hen.alloc (.cells #[.int .i64 kk, .int .i64 nn, .string ss] 35))
      have HB := Lib.hid (boxV_new wr kk nn ss)
      generalize hL : keyX kf nf sf k = L at *
      have HL := Lib.hid (show L.length ≤ 8796172288004 by omega)
      have HV := Lib.hid (fun v' wx' (hx : Eo w wx' w.heap.size v' (L ++ [((kk + 1) % 256).toNat])) => appval_any w w.heap.size v' (L ++ [((kk + 1) % 256).toNat]) (by rw [List.length_append, List.length_singleton]; omega) kk nn ss i1 i2 wx' hx)
      unfold Vv at HV
      have hz8 : 0 ≤ (kk + 1) % 256 := Int.emod_nonneg _ (by decide)
      clear hA' ek en es i1 i2 hen hl0 hL
      go_upto_region 5 with fail
      generalize wr.alloc (.cells #[.int .i64 kk, .int .i64 nn, .string ss] 35) = wx at *
      generalize wr.heap.size = g at *
      clear a0 a1 a2
      obtain ⟨c0, c1, c2⟩ := HB.out.cells
      have hgl := HB.out.lt
      go_region_law (first | (refine step_pushN rfl _ _ rfl w.heap.size _ _ rfl (HE.out.drew.own.alloc _) ⟨wx.heap.size, 0, none⟩ 1 1 [((kk + 1) % 256).toNat] rfl rfl (by decide) (news1' wx.drew _ _ (by first | rfl | omega | (simp only [IntKind.wrap_u8, IntKind.wrap_i64]; omega))) (by have := HL.out; simp; omega) (HE.out.drew.alloc _).sz ?_; intro v1 w1 hown1 hgrow1; have HE1 := Lib.hid ((HE.out.drew.alloc _).push hown1 hgrow1); have HB1 := Lib.hid (BoxV.grownO (BoxV.alloc (show BoxV wx.drew _ _ _ _ from HB.out) _) (HE.out.drew.own.alloc _) hgrow1); obtain ⟨d0, d1, d2⟩ := HB1.out.cells; clear hgrow1 hown1) | (go_simp; go_at_call 24; refine (HV.out _ _ HE1.out.eo).mono ?_; rintro x w2 ⟨v2, rfl, h2⟩))
      all_goals
        go_wp2_with fail
        go_roundw
        case rel => exact ⟨k + 1, by omega, by go_num, ENXT.out _ _ h2⟩
        case measure => simp [intOf]; omega
    · obtain rfl : k = m := by omega
      have HE := Lib.hid hen
      clear hen
      go_wp2
      exact HP.out _ _ HE.out

theorem enc_any (a : Option Addr) (b off m cap : Nat) (kf nf : Nat → Int) (sf : Nat → ByteArray) (hm : m ≤ 4194304) (w : World) (ha : m = 0 ∨ a = some ⟨b, off, none⟩) (hA : IsV w b off m kf nf sf)
    (hr : ∀ i, i < m → VCheck (kf i) (nf i) (sf i) = 0 ∧ InI (nf i)) :
    Calls Try.prog 12 #[.slice a m cap] w fun e w' => ∃ v, e = .returned v ∧ OutB w' w.heap.size v (keyB kf nf sf m) ∧ Below w.heap.size w w' := by
  have h := enc_all a b off m cap kf nf sf hm w ha hA (fun i hi => ⟨(hr i hi).2, by have := (vck (hr i hi).1).2.2.2.2; omega⟩)
  rw [keyX_right kf nf sf m hr] at h
  exact h
theorem enc_wrong (a : Option Addr) (b off m cap : Nat) (kf nf : Nat → Int) (sf : Nat → ByteArray) (hm : m ≤ 4194304) (w : World) (ha : m = 0 ∨ a = some ⟨b, off, none⟩) (hA : IsV w b off m kf nf sf)
    (hr : ∀ i, i < m → InI (nf i) ∧ (sf i).size ≤ 1048576) :
    Calls Try.prog 12 #[.slice a m cap] w fun e w' => ∃ v, e = .returned v ∧ Below w.heap.size w w' :=
  (enc_all a b off m cap kf nf sf hm w ha hA hr).mono fun e w' ⟨v, h1, _, h3⟩ => ⟨v, h1, h3⟩

end Go.Proofs.Ytpknoclnmhomiaa
