/-
  Lists of values: their order (haspref02.Rows) wherever they lie; a copy that the caller owns, and what is appended to it.
  Conditions: the lists lie in memory.
-/
import Derived.Test.YtpknoclnmhomiaaKl1
import Derived.Test.YtpknoclnmhomiaaVal9
namespace Go.Proofs.Ytpknoclnmhomiaa
open Go.RowKit Go.Joins Go.ChangeShapes Go.WideShapes
set_option linter.unusedVariables false

theorem rrows_all (a a' : Option Addr) (b off m cap b' off' n cap' : Nat) (kf nf : Nat → Int) (sf : Nat → ByteArray) (kf' nf' : Nat → Int) (sf' : Nat → ByteArray) (hm : m ≤ maxLen) (hn : n ≤ maxLen) (w : World)
    (ha : m = 0 ∨ a = some ⟨b, off, none⟩) (ha' : n = 0 ∨ a' = some ⟨b', off', none⟩) (hA : IsV w b off m kf nf sf) (hB : IsV w b' off' n kf' nf' sf') :
    Calls Try.prog 19 #[.slice a m cap, .slice a' n cap'] w fun e w' =>
      e = .returned (.int .i64 (firstNZ (fun i => VCmp (kf i) (nf i) (sf i) (kf' i) (nf' i) (sf' i)) (cmpI m n) 0 (min m n))) ∧ Below w.heap.size w w' := by
  by_cases hz : m = 0 ∨ n = 0
  · have e : min m n = 0 := by omega
    rw [e]
    exact rrows_zero a a' m cap n cap' hm hn hz w
  · obtain rfl : a = some ⟨b, off, none⟩ := by rcases ha with h | h; omega; exact h
    obtain rfl : a' = some ⟨b', off', none⟩ := by rcases ha' with h | h; omega; exact h
    exact rrows_some b off m cap b' off' n cap' kf nf sf kf' nf' sf' hm hn w hA hB
theorem IsV.less {w : World} {b off m n : Nat} {kf nf : Nat → Int} {sf : Nat → ByteArray} (h : IsV w b off m kf nf sf) (hn : n ≤ m) : IsV w b off n kf nf sf :=
  ⟨fun h0 => h.hb (by omega), fun i hi => h.c0 i (by omega), fun i hi => h.c1 i (by omega), fun i hi => h.c2 i (by omega)⟩

theorem vcells_vl (kf nf : Nat → Int) (sf : Nat → ByteArray) : ∀ m, vcells kf nf sf m = vlcells (vlist kf nf sf m)
  | 0 => rfl
  | m + 1 => by
    rw [vlist_succ, vlcells_app, ← vcells_vl kf nf sf m]
    rfl
/-- a copy that the caller owns -/
theorem copyrow_own (a : Option Addr) (m cap b off : Nat) (kf nf : Nat → Int) (sf : Nat → ByteArray) (hm : m * 32 ≤ 140737488351232) (w : World)
    (ha : m = 0 ∨ a = some ⟨b, off, none⟩) (hA : IsV w b off m kf nf sf) :
    Calls Try.prog 13 #[.slice a m cap] w fun e w' => ∃ v, e = .returned v ∧ OwV w' w.heap.size v (vlist kf nf sf m) ∧ Below w.heap.size w w' := by
  obtain ⟨i0, hi, hz0, hz1, hz2⟩ := info_parts infoV
  generalize hP : (fun (e : Ending) (w' : World) => ∃ v, e = .returned v ∧ OwV w' w.heap.size v (vlist kf nf sf m) ∧ Below w.heap.size w w') = P
  have hpost2 : ∀ (v : Value) (w' : World), w'.ownsRow w.heap.size 35 3 v m (vcells kf nf sf m) → v ≠ .slice none 0 0 → Below w.heap.size w w' → P (.returned v) w' := by
    intro v w' h1 h2 h3
    rw [← hP]
    refine ⟨v, rfl, ⟨?_, h2⟩, h3⟩
    rw [vlist_length, ← vcells_vl]
    exact h1
  have HP := Lib.hid hpost2
  clear hpost2 hP
  go_enter Try.func13, Try.ntmps13
  go_wp2
  go_loopw [3, 4] (fun v i wr => ∃ k : Nat, k ≤ m ∧ i = .int .i64 k ∧ wr.ownsRow w.heap.size 35 3 v k (vcells kf nf sf k) ∧ Below w.heap.size w wr ∧ v ≠ .slice none 0 0) (fun _ i _ => m - (intOf i).toNat)
  case atStart =>
    exact ⟨0, Nat.zero_le _, rfl, World.ownsRow_made w #[] 0 (Nat.le_refl _) (by decide) rfl, (Below.refl _ _).alloc (Nat.le_refl _) _, by simp⟩
  case round =>
    obtain ⟨k, hk, rfl, hown, hb, hne⟩ := hrel
    by_cases hlt : k < m
    · obtain rfl : a = some ⟨b, off, none⟩ := by rcases ha with h | h; omega; exact h
      have hA' := hA.below hb
      have a0 := hA'.c0 k hlt
      have a1 := hA'.c1 k hlt
      have a2 := hA'.c2 k hlt
      have hkm : (k : Int) < (m : Int) := by omega
      clear hA' ha
      have hz := hb.size
      have q1 : ∀ j u, ([.int .i64 (kf k), .int .i64 (nf k), .string (sf k)] : List Value)[j]? = some u → (wr.alloc (.cells #[.int .i64 (kf k), .int .i64 (nf k), .string (sf k)] 35)).cell? ((⟨wr.heap.size, 0, none⟩ : Addr).add j) = some u := World.news_of_block (cs := #[.int .i64 (kf k), .int .i64 (nf k), .string (sf k)]) (heap_alloc_new wr _)
      have q2 : ∀ u ∈ ([.int .i64 (kf k), .int .i64 (nf k), .string (sf k)] : List Value), u.oneCell' = true := by simp [Value.oneCell']
      have q3 : k + 1 ≤ maxLen := by unfold maxLen; omega
      have q4 : (k + 1) * 32 ≤ 140737488355328 := by omega
      have q5 : w.heap.size ≤ (wr.alloc (.cells #[.int .i64 (kf k), .int .i64 (nf k), .string (sf k)] 35)).heap.size := by simp; omega
      have Q1 := Lib.hid q1
      have Q2 := Lib.hid q2
      have Q5 := Lib.hid q5
      have HO := Lib.hid hown
      clear q1 q2 q5 hown
      go_wp2_with (at_builtin; refine wpList_append_own _ rfl _ _ 22 rfl w.heap.size 35 i0 _ 3 32 Try.underlying22 hi hz0 hz1 hz2 rfl (by decide) _ _ _ rfl (HO.out.alloc _) ⟨wr.heap.size, 0, none⟩ 1 1 [.int .i64 (kf k), .int .i64 (nf k), .string (sf k)] rfl rfl Q1.out Q2.out q3 q4 Q5.out ?_; intro v' w1 hown1 hgrow hnil)
      have hb1 : Below w.heap.size w w1 := (hb.alloc hz _).grown hgrow Q5.out (fun k' hk' => (HO.out.lt k' hk').1)
      have hn : v' ≠ .slice none 0 0 := fun e => hne (hnil.1 e).1
      clear hgrow hnil
      go_roundw
      case rel => exact ⟨k + 1, by omega, by go_num, hown1, hb1, hn⟩
      case measure => simp [intOf]; omega
    · have hk1 : ¬ (k : Int) < (m : Int) := by omega
      have hkm : m = k := by omega
      have HK := Lib.hid hkm
      have HO := Lib.hid hown
      clear hkm hown
      go_wp2
      have h1 := HK.out
      subst h1
      exact HP.out _ _ HO.out hne hb

/-- append of a list of values that came in -/
theorem wp_copyAV {ops : Array Oper} {rest : List Oper} {o : Oper} {a : Act} {w : World} {Q : Exit → Act → World → Prop} (hgd : o.guard = none) (s x : Operand)
    (ho : o.op = .call { callee := .builtin .append, args := #[s, x], argTypes := #[22, 22] })
    (base : Nat) (v : Value) (l : List Vt) (hs : a.eval s = v) (hown : OwV w base v l) (A : Option Addr) (n c : Nat) (hx : a.eval x = .slice A n c)
    (b off : Nat) (kf nf : Nat → Int) (sf : Nat → ByteArray) (hN : (A = none ∧ n = 0 ∧ c = 0) ∨ ∃ ad, A = some ad ∧ (0 < n → ad = ⟨b, off, none⟩)) (hr : IsV w b off n kf nf sf) (hsz : l.length + n ≤ 2199023255552) (hbase : base ≤ w.heap.size)
    (h : ∀ v' w', OwV w' base v' (l ++ vlist kf nf sf n) → w.grownBy w' v.ownBlock → wpList Try.prog ops Q rest (a.put o.dst v') w') : wpList Try.prog ops Q (o :: rest) a w := by
  rcases hN with ⟨rfl, h0, rfl⟩ | ⟨ad, rfl, had⟩
  · subst h0
    obtain ⟨i0, hi, hz0, hz1, hz2⟩ := info_parts infoV
    refine wpList_append_own_none hgd s x _ ho base 35 i0 3 Try.underlying22 hi v l.length (vlcells l) hs hown.1 hx (h v w ?_ ⟨rfl, rfl, rfl, Nat.le_refl _, fun _ _ _ => rfl⟩)
    show OwV w base v (l ++ [])
    rw [List.append_nil]
    exact hown
  · refine wp_pushV hgd s x ho base v l hs hown ad n c (vlist kf nf sf n) hx (vlist_length _ _ _ _) (fun j u hj => ?_) hsz hbase h
    rw [← vcells_vl] at hj
    have hl := vcells_length kf nf sf n
    have hj2 : j < n * 3 := by rw [← hl]; exact (List.getElem?_eq_some_iff.1 hj).1
    rw [had (by omega)]
    have ea : (⟨b, off, none⟩ : Addr).add j = ⟨b, off + j, none⟩ := by unfold Addr.add; split <;> simp_all
    rw [ea]
    obtain ⟨i, q, hq, hji⟩ : ∃ i q, q < 3 ∧ j = i * 3 + q := ⟨j / 3, j % 3, Nat.mod_lt _ (by decide), by omega⟩
    have hi : i < n := by omega
    obtain ⟨v0, v1, v2⟩ := vcells_at kf nf sf i n hi
    match q, hq with
    | 0, _ =>
      rw [hji, Nat.add_zero] at hj ⊢
      rw [v0] at hj
      rw [← Option.some.inj hj]
      exact hr.c0 i hi
    | 1, _ =>
      rw [hji] at hj ⊢
      rw [v1] at hj
      rw [← Option.some.inj hj, ← Nat.add_assoc]
      exact hr.c1 i hi
    | 2, _ =>
      rw [hji] at hj ⊢
      rw [v2] at hj
      rw [← Option.some.inj hj, ← Nat.add_assoc]
      exact hr.c2 i hi
theorem OwV.caps {w : World} {base g n cap : Nat} {l : List Vt} (h : OwV w base (.slice (some ⟨g, 0, none⟩) n cap) l) : n ≤ cap ∧ cap ≤ maxLen := by
  rcases h.1.2 with ⟨e, _⟩ | ⟨g', cap', cur, e, _, _, hn, hc, _⟩
  · cases e
  · injection e with e1 e2 e3
    subst e3
    exact ⟨by omega, hc⟩

end Go.Proofs.Ytpknoclnmhomiaa
