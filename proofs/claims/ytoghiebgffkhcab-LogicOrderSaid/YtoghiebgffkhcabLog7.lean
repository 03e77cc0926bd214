/-
  The examples of the document for layer 4 hold; a list of verdicts that comes in, and its copy.
  Conditions: none.
-/
import Derived.Test.YtoghiebgffkhcabLog6
import Derived.SizedLaws
import Derived.Deep.Slices
import Derived.Deep.Fields
namespace Go.Proofs.Ytoghiebgffkhcab
open Go.RowKit Go.Joins Go.ChangeShapes Go.WideShapes
set_option linter.unusedVariables false

theorem wrong_any (e : Int) (w : World) :
    Calls Try.prog 18 #[.int .i64 e] w fun x w' => x = .returned (Dv 0 e) ∧ Below w.heap.size w w' := by
  unfold Dv
  go_enter Try.func18, Try.ntmps18
  go_wp2
  exact bodyPost_ret (v := .agg #[.int .i64 0, .int .i64 e]) (by simp [results, Try.results18, go_sem]) rfl ⟨rfl, (Below.refl _ _).alloc (Nat.le_refl _) _⟩

def lf (l : List Int) (i : Nat) : Int := l.getD i 0

theorem isD3 (w : World) (a b c d e f : Int) : IsD (w.alloc (.cells #[.int .i64 a, .int .i64 b, .int .i64 c, .int .i64 d, .int .i64 e, .int .i64 f] 24)) w.heap.size 0 3 (lf [a, c, e]) (lf [b, d, f]) := by
  refine ⟨fun _ => by simp, fun i hi => ?_, fun i hi => ?_⟩
  · match i, hi with
    | 0, _ => go_simp; exact rfl
    | 1, _ => go_simp; exact rfl
    | 2, _ => go_simp; exact rfl
  · match i, hi with
    | 0, _ => go_simp; exact rfl
    | 1, _ => go_simp; exact rfl
    | 2, _ => go_simp; exact rfl
theorem isD2 (w : World) (a b c d : Int) : IsD (w.alloc (.cells #[.int .i64 a, .int .i64 b, .int .i64 c, .int .i64 d] 24)) w.heap.size 0 2 (lf [a, c]) (lf [b, d]) := by
  refine ⟨fun _ => by simp, fun i hi => ?_, fun i hi => ?_⟩
  · match i, hi with
    | 0, _ => go_simp; exact rfl
    | 1, _ => go_simp; exact rfl
  · match i, hi with
    | 0, _ => go_simp; exact rfl
    | 1, _ => go_simp; exact rfl

theorem sp1 : sB (vs 3 (lf [1, 2, 0]) (lf [0, 0, 32])) = false ∧ sE (vs 3 (lf [1, 2, 0]) (lf [0, 0, 32])) = 0 := by decide
theorem sp2 : sB (vs 2 (lf [0, 0]) (lf [32, 31])) = false ∧ sE (vs 2 (lf [0, 0]) (lf [32, 31])) = 31 := by decide

theorem fieldT (a b : Int) (w : World) : (Instr.field 24 (.agg #[.int .i64 a, .int .i64 b]) 0).run Try.prog w = .ok (.int .i64 a) w := by kernel_rfl

set_option maxHeartbeats 1000000 in
theorem speaks4_any (w : World) :
    Calls Try.prog 7 #[] w fun e w' => e = .returned (.bool true) ∧ Below w.heap.size w w' := by
  have hw := fun e w => wrong_any e w
  have hs1 := fun g w h => sieve_any (some ⟨g, 0, none⟩) 3 3 g 0 (lf [1, 2, 0]) (lf [0, 0, 32]) (by decide) w (.inr rfl) h
  have hs2 := fun g w h => sieve_any (some ⟨g, 0, none⟩) 2 2 g 0 (lf [0, 0]) (lf [32, 31]) (by decide) w (.inr rfl) h
  rw [sp1.1, sp1.2] at hs1
  rw [sp2.1, sp2.2] at hs2
  have ha := and_any 0 0 0 32
  have ho := or_any 2 0 0 32
  have hn := not_any 0 0
  have hx := worse_any 0 5
  rw [show aT 0 0 0 32 = 0 from rfl, show aE 0 0 0 32 = 0 from rfl] at ha
  rw [show oT 2 0 0 32 = 0 from rfl, show oE 2 0 0 32 = 32 from rfl] at ho
  rw [show nT 0 0 = 1 from rfl] at hn
  rw [show W2 0 5 = 5 from rfl] at hx
  unfold Dv at *
  have HW := Lib.hid hw
  have HS1 := Lib.hid hs1
  have HS2 := Lib.hid hs2
  have HA := Lib.hid ha
  have HO := Lib.hid ho
  have HN := Lib.hid hn
  have HX := Lib.hid hx
  clear hw hs1 hs2 ha ho hn hx
  go_enter Try.func7, Try.ntmps7
  go_wp2_with fail
  refine (HW.out _ _).mono ?_
  rintro x w1 ⟨rfl, b1⟩
  go_wp2_with fail
  refine (HS1.out w1.heap.size _ (isD3 _ _ _ _ _ _ _)).mono ?_
  rintro x w2 ⟨rfl, b2⟩
  have c2 := (b1.alloc b1.size _).trans (b2.mono (by have := b1.size; simp; omega))
  clear b1 b2
  go_wp2_with fail
  refine (HW.out _ _).mono ?_
  rintro x w3 ⟨rfl, b3⟩
  have c3 := c2.trans (b3.mono c2.size)
  clear c2 b3
  go_wp2_with fail
  refine (HW.out _ _).mono ?_
  rintro x w4 ⟨rfl, b4⟩
  have c4 := c3.trans (b4.mono c3.size)
  clear c3 b4
  go_wp2_with fail
  refine (HS2.out w4.heap.size _ (isD2 _ _ _ _ _)).mono ?_
  rintro x w5 ⟨rfl, b5⟩
  have c5 := (c4.alloc c4.size _).trans (b5.mono (by have := c4.size; simp; omega))
  clear c4 b5
  go_wp2_with fail
  refine (HW.out _ _).mono ?_
  rintro x w6 ⟨rfl, b6⟩
  have c6 := c5.trans (b6.mono c5.size)
  clear c5 b6
  go_wp2_with fail
  refine (HA.out _).mono ?_
  rintro x w7 ⟨rfl, b7⟩
  have c7 := c6.trans (b7.mono c6.size)
  clear c6 b7
  go_wp2_with fail
  refine (HW.out _ _).mono ?_
  rintro x w8 ⟨rfl, b8⟩
  have c8 := c7.trans (b8.mono c7.size)
  clear c7 b8
  go_wp2_with fail
  refine (HO.out _).mono ?_
  rintro x w9 ⟨rfl, b9⟩
  have c9 := c8.trans (b9.mono c8.size)
  clear c8 b9
  go_wp2_with fail
  refine (HW.out _ _).mono ?_
  rintro x w10 ⟨rfl, b10⟩
  have c10 := c9.trans (b10.mono c9.size)
  clear c9 b10
  go_wp2_with fail
  refine (HN.out _).mono ?_
  rintro x w11 ⟨rfl, b11⟩
  have c11 := c10.trans (b11.mono c10.size)
  clear c10 b11
  have hfld := fieldT 1 0
  go_wp2_with fail
  refine (HX.out _).mono ?_
  rintro x w12 ⟨rfl, rfl⟩
  clear hfld
  go_wp2
  go_ret
  exact ⟨rfl, c11⟩

theorem infoD : (Try.prog.info? 24).map (fun i => (i.zero, i.size, i.bytes)) = some (some (.agg #[.int .i64 0, .int .i64 0]), 2, 16) := by kernel_rfl

/-- the cells of the first k verdicts -/
def dcells (tf ef : Nat → Int) : Nat → List Value
  | 0 => []
  | k + 1 => dcells tf ef k ++ [.int .i64 (tf k), .int .i64 (ef k)]

theorem dcells_length (tf ef : Nat → Int) (k : Nat) : (dcells tf ef k).length = k * 2 := by
  induction k with
  | zero => rfl
  | succ k ih => simp [dcells, ih]; omega

theorem dcells_at (tf ef : Nat → Int) (i : Nat) : ∀ m, i < m → (dcells tf ef m)[i * 2]? = some (.int .i64 (tf i)) ∧ (dcells tf ef m)[i * 2 + 1]? = some (.int .i64 (ef i))
  | 0, h => by omega
  | m + 1, h => by
    have hl := dcells_length tf ef m
    unfold dcells
    by_cases c : i < m
    · obtain ⟨h1, h2⟩ := dcells_at tf ef i m c
      rw [List.getElem?_append_left (by omega), List.getElem?_append_left (by omega)]
      exact ⟨h1, h2⟩
    · obtain rfl : i = m := by omega
      rw [List.getElem?_append_right (by omega), List.getElem?_append_right (by omega), hl]
      refine ⟨?_, ?_⟩
      · rw [Nat.sub_self]; rfl
      · rw [show i * 2 + 1 - i * 2 = 1 from by omega]; rfl

theorem dcells_one (tf ef : Nat → Int) (m : Nat) : ∀ u ∈ dcells tf ef m, u.oneCell' = true := by
  induction m with
  | zero => intro u hu; exact absurd hu (by simp [dcells])
  | succ m ih =>
    intro u hu
    unfold dcells at hu
    rcases List.mem_append.1 hu with h | h
    · exact ih u h
    · simp at h
      rcases h with rfl | rfl <;> rfl

/-- a verdict ahead of a list's cells -/
theorem dcells_cons (tf ef : Nat → Int) (t e : Int) (m : Nat) :
    .int .i64 t :: .int .i64 e :: dcells tf ef m = dcells (fun i => if i = 0 then t else tf (i - 1)) (fun i => if i = 0 then e else ef (i - 1)) (m + 1) := by
  induction m with
  | zero => simp [dcells]
  | succ m ih =>
    rw [dcells]
    rw [show dcells (fun i => if i = 0 then t else tf (i - 1)) (fun i => if i = 0 then e else ef (i - 1)) (m + 1 + 1) = dcells (fun i => if i = 0 then t else tf (i - 1)) (fun i => if i = 0 then e else ef (i - 1)) (m + 1) ++ [.int .i64 (tf m), .int .i64 (ef m)] from by rw [dcells]; simp]
    rw [← ih]
    rfl

theorem isD_of_owns {w : World} {base : Nat} {v : Value} {m : Nat} {tf ef : Nat → Int} (h : w.ownsRow base 24 2 v m (dcells tf ef m)) (hv : v ≠ .slice none 0 0) :
    ∃ g cap', v = .slice (some ⟨g, 0, none⟩) m cap' ∧ IsD w g 0 m tf ef := by
  rcases h.2 with ⟨e, _⟩ | ⟨g, cap', cur, e, _, hg, _⟩
  · exact absurd e hv
  · subst e
    refine ⟨g, cap', rfl, ⟨fun _ => (Array.getElem?_eq_some_iff.1 hg).1, fun i hi => ?_, fun i hi => ?_⟩⟩
    · obtain ⟨h1, h2⟩ := dcells_at tf ef i m hi
      rw [Nat.zero_add, h.cellAt _ (by omega)]; exact h1
    · obtain ⟨h1, h2⟩ := dcells_at tf ef i m hi
      rw [Nat.zero_add, h.cellAt _ (by omega)]; exact h2

theorem after_append {w0 w' w1 : World} {v v' : Value} {n m : Nat} {xs news : List Value} (hB : Below w0.heap.size w0 w') (ho : w'.ownsRow w0.heap.size 24 2 v n xs) (hv : v ≠ .slice none 0 0)
    (hown : w1.ownsRow w0.heap.size 24 2 v' (n + m) (xs ++ news)) (hgrow : w'.grownBy w1 v.ownBlock) (hnil : v' = .slice none 0 0 ↔ v = .slice none 0 0 ∧ m = 0) (tf ef : Nat → Int) (k : Nat) (hk : n + m = k) (hx : xs ++ news = dcells tf ef k) :
    ∃ g cap', v' = .slice (some ⟨g, 0, none⟩) k cap' ∧ IsD w1 g 0 k tf ef ∧ Below w0.heap.size w0 w1 := by
  rw [hk, hx] at hown
  obtain ⟨g, cap', e, h⟩ := isD_of_owns hown (fun e => hv (hnil.1 e).1)
  exact ⟨g, cap', e, h, hB.grown hgrow hB.size (fun k' hk' => (ho.lt k' hk').1)⟩

theorem news_of_isD {w : World} {b off m : Nat} {tf ef : Nat → Int} (h : IsD w b off m tf ef) {ad : Addr} (ha : 0 < m → ad = ⟨b, off, none⟩) : ∀ j u, (dcells tf ef m)[j]? = some u → w.cell? (ad.add j) = some u := by
  intro j u hu
  have hl := dcells_length tf ef m
  have hj : j < m * 2 := by
    have := (List.getElem?_eq_some_iff.1 hu).1
    omega
  rw [ha (by omega)]
  have ea : ∀ j, (⟨b, off, none⟩ : Addr).add j = ⟨b, off + j, none⟩ := by intro j; unfold Addr.add; split <;> simp_all
  rw [ea]
  obtain ⟨h1, h2⟩ := dcells_at tf ef (j / 2) m (by omega)
  rcases Nat.mod_two_eq_zero_or_one j with c | c
  · have e : j = j / 2 * 2 := by omega
    rw [← e, hu] at h1
    rw [e]
    rw [h.c0 _ (by omega)]; exact h1.symm
  · have e : j = j / 2 * 2 + 1 := by omega
    rw [← e, hu] at h2
    rw [e, ← Nat.add_assoc]
    rw [h.c1 _ (by omega)]; exact h2.symm

def cInt : Option Value → Int | some (.int _ n) => n | _ => 0

theorem cells_int : Try.prog.cellsOf 3 = 1 := by kernel_rfl
theorem cells_errno : Try.prog.cellsOf 22 = 1 := by kernel_rfl
theorem bytesD : Try.prog.bytesOf 24 = 16 := by kernel_rfl

theorem open_vers {H : Type} {enc : TypeId × Value → H} {W : World} {base b0 : Nat} {r : Reach} {v : Value} {d : DataW H} {p : List MemPlace}
    (o : Value.okWide Try.prog W r b0 31 v) (h : DataW.Trod enc Try.prog W base (fun _ => true) true 31 v d p) :
    ∃ (a : Option Addr) (len cap b off : Nat) (tf ef : Nat → Int), v = .slice a len cap ∧ len ≤ cap ∧ cap ≤ maxLen ∧ (len = 0 ∨ a = some ⟨b, off, none⟩) ∧ IsD W b off len tf ef ∧
      ((a = none ∧ len = 0 ∧ cap = 0) ∨ ∃ ad, a = some ad ∧ (0 < len → ad = ⟨b, off, none⟩)) ∧
      ((d = .nil ∧ len = 0) ∨ ∃ es sp, d = .slice es sp ∧ es.length + sp.length = cap) := by
  obtain ⟨a, len, cap, rfl⟩ := okWide_slice Try.underlying31 o
  obtain ⟨fuel, hf⟩ := h
  rcases Go.Deep.open_slice Try.underlying31 hf with ⟨hcs, hx⟩ | ⟨a', len', cap', m, n, D, Pl, hcs, hb, hl, hm, hmm, hx, hi⟩
  · simp [Value.cells] at hcs
    obtain ⟨rfl, rfl, rfl⟩ := hcs
    simp only [Prod.mk.injEq] at hx
    exact ⟨none, 0, 0, 0, 0, fun _ => 0, fun _ => 0, rfl, Nat.le_refl _, by decide, .inl rfl, ⟨fun h => absurd h (by decide), fun i hi => absurd hi (by omega), fun i hi => absurd hi (by omega)⟩, .inl ⟨rfl, rfl, rfl⟩, .inl ⟨hx.1, rfl⟩⟩
  · simp [Value.cells] at hcs
    obtain ⟨rfl, rfl, rfl⟩ := hcs
    simp only [Prod.mk.injEq] at hx
    simp only [if_true] at hmm
    subst hmm
    rw [cellsD] at hi
    have hcell : ∀ i, i < len → ∃ t e, W.cell? (a'.add (i * 2)) = some (.int .i64 t) ∧ W.cell? ((a'.add (i * 2)).add 1) = some (.int .i64 e) := by
      intro i hil
      obtain ⟨cs', hc, ht⟩ := hi i (by omega)
      obtain ⟨y0, y1, n', -, hlen, h0, h1⟩ := trod_struct2 Try.underlying24 ht
      rw [cellsD] at hlen
      obtain ⟨_, hcl, hat⟩ := World.cells?_some hc
      match cs', hlen with
      | [c0, c1], _ =>
        obtain ⟨k, e0, -, -⟩ := DataW.trod_int Try.underlying3 h0
        obtain ⟨n, e1, -, -⟩ := DataW.trod_int Try.underlying22 h1
        simp [cells_int, cells_errno] at e0 e1
        subst e0 e1
        refine ⟨k, n, ?_, ?_⟩
        · have := hat 0 (by decide)
          simpa [Addr.add] using this
        · exact hat 1 (by decide)
    by_cases h0 : len = 0
    · exact ⟨_, _, _, 0, 0, fun _ => 0, fun _ => 0, rfl, hl, hm, .inl h0, ⟨fun h => by omega, fun i hi => by omega, fun i hi => by omega⟩, .inr ⟨_, rfl, fun h => by omega⟩,
        .inr ⟨_, _, hx.1, by simp; omega⟩⟩
    · have hsp : a'.spot = none := by
        obtain ⟨k, n, c, -⟩ := hcell 0 (by omega)
        simpa [Addr.add] using World.cell?_spot c
      obtain ⟨b, off, spot⟩ := a'
      simp only at hsp
      subst hsp
      have ea : ∀ j, (⟨b, off, none⟩ : Addr).add j = ⟨b, off + j, none⟩ := by intro j; unfold Addr.add; split <;> simp_all
      have hlt : b < W.heap.size := by
        obtain ⟨k, n, c, -⟩ := hcell 0 (by omega)
        rw [ea] at c
        exact World.block_lt_of_cell? W _ c
      refine ⟨some ⟨b, off, none⟩, _, _, b, off, fun i => cInt (W.cell? ⟨b, off + i * 2, none⟩), fun i => cInt (W.cell? ⟨b, off + i * 2 + 1, none⟩), rfl, hl, hm, .inr rfl, ⟨fun _ => hlt, fun i hil => ?_, fun i hil => ?_⟩, .inr ⟨_, rfl, fun _ => rfl⟩, .inr ⟨_, _, hx.1, by simp; omega⟩⟩
      · obtain ⟨k, n, c0, c1⟩ := hcell i hil
        rw [ea] at c0
        rw [c0]; rfl
      · obtain ⟨k, n, c0, c1⟩ := hcell i hil
        rw [Go.Deep.add_add, ea, ← Nat.add_assoc] at c1
        rw [c1]; rfl

theorem reachD {H : Type} {ts : List TypeId} {ds : List (DataW H)} (hz : (DataW.weightsEach Try.prog ts ds).all (· ≤ reachBytes) = true) {j m cap : Nat} {d : DataW H} (ht : ts[j]? = some 31) (hj : ds[j]? = some d) (hl : m ≤ cap)
    (hd : (d = .nil ∧ m = 0) ∨ ∃ es sp, d = .slice es sp ∧ es.length + sp.length = cap) : m * 16 ≤ 140737488351232 := by
  rcases hd with ⟨-, rfl⟩ | ⟨es, sp, rfl, e⟩
  · omega
  · have := sized_slice hz ht hj Try.underlying31
    rw [bytesD, e] at this
    unfold reachBytes at this
    omega

end Go.Proofs.Ytoghiebgffkhcab
