/-
  Whether the changes are guarded: a contract over the translation.
  Conditions: the row lies in memory.
-/
import Derived.Test.YtgndbhgpdcelpaaDoorCv13
namespace Go.Proofs.YtgndbhgpdcelpaaDoor
set_option maxRecDepth 100000
open Go.RowKit Go.Joins Go.ChangeShapes Go.WideShapes
set_option linter.unusedVariables false
set_option linter.unusedSimpArgs false

theorem ints_1 (w : World) (x : Int) : IntsA (w.alloc (.cells #[.int .i64 x] 3)) (some ⟨w.heap.size, 0, none⟩) [x] := by
  have hn := Bx.new w #[.int .i64 x] 3
  refine ⟨_, _, rfl, hn.lt, fun i y hy => ?_⟩
  rw [Nat.zero_add]
  match i, hy with
  | 0, hy => simp at hy; subst hy; exact hn.cell rfl
theorem ints_2 (w : World) (x y : Int) : IntsA (w.alloc (.cells #[.int .i64 x, .int .i64 y] 3)) (some ⟨w.heap.size, 0, none⟩) [x, y] := by
  have hn := Bx.new w #[.int .i64 x, .int .i64 y] 3
  refine ⟨_, _, rfl, hn.lt, fun i z hz => ?_⟩
  rw [Nat.zero_add]
  match i, hz with
  | 0, hz => simp at hz; subst hz; exact hn.cell rfl
  | 1, hz => simp at hz; subst hz; exact hn.cell rfl
theorem ints_4 (w : World) (x y u v : Int) : IntsA (w.alloc (.cells #[.int .i64 x, .int .i64 y, .int .i64 u, .int .i64 v] 3)) (some ⟨w.heap.size, 0, none⟩) [x, y, u, v] := by
  have hn := Bx.new w #[.int .i64 x, .int .i64 y, .int .i64 u, .int .i64 v] 3
  refine ⟨_, _, rfl, hn.lt, fun i z hz => ?_⟩
  rw [Nat.zero_add]
  match i, hz with
  | 0, hz => simp at hz; subst hz; exact hn.cell rfl
  | 1, hz => simp at hz; subst hz; exact hn.cell rfl
  | 2, hz => simp at hz; subst hz; exact hn.cell rfl
  | 3, hz => simp at hz; subst hz; exact hn.cell rfl
def hd10 : List Ins → Bool
  | [] => false
  | x :: _ => x.op == 10
/-- are the changes guarded and made just once, behind all that adds to them? -/
def glB (q : List Ins) : Bool :=
  cnL [9] q == 1 && cnL [10] q == 1 &&
  (let B := q.drop ((q.takeWhile fun x => !(x.op == 9)).length + 1); hd10 B && cnL [6, 7] B == 0)
/-- what a count of one says -/
theorem cn_one {q : List Ins} (h : cnL [9] q = 1) : ∃ x ∈ q, (x.op == 9) = true := by
  unfold cnL at h
  have h1 : 0 < (q.filter fun x => [9].any fun o => x.op == o).length := by omega
  obtain ⟨x, hx⟩ := List.exists_mem_of_length_pos h1
  rw [List.mem_filter] at hx
  exact ⟨x, hx.1, by simpa using hx.2⟩
theorem tw_at {α : Type} {p : α → Bool} {q : List α} (h : (q.takeWhile fun y => !p y).length < q.length) : p (q[(q.takeWhile fun y => !p y).length]'h) = true := by
  induction q with
  | nil => simp at h
  | cons a r ih =>
    cases ha : p a with
    | true => simp [List.takeWhile, ha]
    | false =>
      have e : (a :: r).takeWhile (fun y => !p y) = a :: r.takeWhile fun y => !p y := List.takeWhile_cons_of_pos (by simp [ha])
      simp only [e, List.length_cons, List.getElem_cons_succ]
      exact ih (by simpa [e] using h)
set_option maxHeartbeats 8000000 in
set_option maxRecDepth 100000 in
theorem guards_any (w : World) (tb : ByteArray) (a : Option Addr) (cap : Nat) (q : List Ins) (h : RowA w a q) (hm : q.length ≤ 1048576) (hc : q.length ≤ cap) (hlast : ∃ x, q[q.length - 1]? = some x ∧ (x.op == 12) = true) :
    Calls Tryd.prog 34 #[.agg #[.string tb, .slice a q.length cap]] w fun e w' => e = .returned (.bool (glB q)) ∧ Below w.heap.size w w' := by
  obtain ⟨W1, hW1⟩ : ∃ W1, w.alloc (.cells #[.string tb, .slice a q.length cap] 37) = W1 := ⟨_, rfl⟩
  obtain ⟨HB1, z0, z1, hz, hbx⟩ := ck_box hW1
  have HH := Lib.hid (fun (V : World) (hV : Below W1.heap.size W1 V) => (h.below HB1.out).below hV)
  have HBX := Lib.hid (fun (V : World) (hV : Below W1.heap.size W1 V) => hbx.below hV)
  obtain ⟨n, hn⟩ : ∃ n, q.length = n := ⟨_, rfl⟩
  obtain ⟨W2, hW2⟩ : ∃ W2, W1.alloc (.cells #[.int .i64 9] 3) = W2 := ⟨_, rfl⟩
  have hb2 : Below W1.heap.size W1 W2 := by rw [← hW2]; exact (Below.refl _ _).alloc (Nat.le_refl _) _
  have HC1 := Lib.hid (count_any W2 a cap q (HH.out W2 hb2) hm (some ⟨W1.heap.size, 0, none⟩) 1 [9] (by rw [← hW2]; exact ints_1 W1 9) (by decide))
  have HB2 := Lib.hid hb2
  have HC2 := Lib.hid (fun (V : World) (hV : Below W1.heap.size W1 V) => count_any (V.alloc (.cells #[.int .i64 10] 3)) a cap q (HH.out _ (hV.alloc hV.size _)) hm (some ⟨V.heap.size, 0, none⟩) 1 [10] (ints_1 V 10) (by decide))
  have HIX := Lib.hid (fun (V : World) (hV : Below W1.heap.size W1 V) => idxf_any V a cap q (HH.out V hV) (by omega) 48 #[] (fun x => x.op == 9) (fun W x _ => isgrd_any x W) (enters_of Tryd.func48 (by kernel_rfl) rfl))
  obtain ⟨R, hR⟩ : ∃ R, glB q = R := ⟨_, rfl⟩
  rw [hR]
  unfold glB at hR
  have HG := Lib.hid (fun h => tw_stop (p := fun x : Ins => x.op == 9) (cn_one (q := q) h).choose_spec.1 (cn_one (q := q) h).choose_spec.2)
  obtain ⟨k, hk⟩ : ∃ k, (q.takeWhile fun x => !(x.op == 9)).length = k := ⟨_, rfl⟩
  have HK := Lib.hid (show ∀ x : Ins, q[k]? = some x → (x.op == 9) = true from fun x hx => by
    subst hk
    obtain ⟨h1, h2⟩ := List.getElem?_eq_some_iff.1 hx
    rw [← h2]
    exact tw_at (p := fun x : Ins => x.op == 9) h1)
  have HFI := Lib.hid (fun (h : k < q.length) => show fidx (fun x : Ins => x.op == 9) q = (k : Nat) by unfold fidx; rw [hk, if_neg (Nat.ne_of_lt h)])
  obtain ⟨B, hB⟩ : ∃ B, q.drop (k + 1) = B := ⟨_, rfl⟩
  rw [hk] at hR HG
  simp only [hB] at hR
  obtain ⟨G1, hG1⟩ : ∃ G1, cnL [9] q = G1 := ⟨_, rfl⟩
  obtain ⟨G2, hG2⟩ : ∃ G2, cnL [10] q = G2 := ⟨_, rfl⟩
  rw [hG1] at hR HC1 HG
  rw [hG2] at hR HC2
  rw [hn] at hm hc hlast z1 HBX HC1 HC2 HIX HFI HG hW1 ⊢
  have HN := Lib.hid hn
  have HR := Lib.hid hR
  have HLA := Lib.hid hlast
  have HBD := Lib.hid hB
  clear hR hz hbx h hb2 hn hlast hk hB hG1 hG2
  go_enter Tryd.func34, Tryd.ntmps34
  go_wp2_with fail
  refine HC1.out.mono ?_
  rintro e w3 ⟨rfl, hb3⟩
  have hb13 := btr HB2.out hb3 HB2.out.size
  have HB3 := Lib.hid hb13
  have y0 : w3.cell? ⟨w.heap.size, 0, none⟩ = some (.string tb) := (HBX.out w3 hb13).cell rfl
  have y1 : w3.cell? ⟨w.heap.size, 1, none⟩ = some (.slice a n cap) := (HBX.out w3 hb13).cell rfl
  have HC3 := Lib.hid (HC2.out w3 hb13)
  clear hb3 HC1 hb13 HC2
  by_cases g1 : G1 = 1
  case neg =>
    obtain rfl : R = false := by rw [← HR.out]; simp [g1]
    have e1 : ((G1 : Int) == 1) = false := by simp; omega
    have e2 : ((G1 : Int) != 1) = true := by simp [bne, e1]
    have HBF := Lib.hid (btr HB1.out HB3.out HB1.out.size)
    go_wp2_with fail
    go_ret
    exact ⟨rfl, HBF.out⟩
  case pos =>
    subst g1
    have hkn := HG.out rfl
    have HFX := HFI.out hkn
    rw [HFX] at HIX
    have HR1 := Lib.hid (show (G2 == 1 && (hd10 B && cnL [6, 7] B == 0)) = R by rw [← HR.out]; simp)
    have e1 : (((1 : Nat) : Int) == 1) = true := rfl
    have e2 : (((1 : Nat) : Int) != 1) = false := rfl
    have hk1 : k + 1 < n := by
      obtain ⟨x, hx, hx12⟩ := HLA.out
      by_cases e : k = n - 1
      · rw [← e] at hx
        have hk9 := HK.out x hx
        rw [beq_iff_eq] at hk9 hx12
        omega
      · omega
    have HRX := Lib.hid HFX
    clear HFX HR HG HK HFI
    obtain ⟨W4, hW4⟩ : ∃ W4, w3.alloc (.cells #[.int .i64 10] 3) = W4 := ⟨_, rfl⟩
    rw [hW4] at HC3
    have hb4 : Below w3.heap.size w3 W4 := by rw [← hW4]; exact (Below.refl _ _).alloc (Nat.le_refl _) _
    have HB4 := Lib.hid (btr HB3.out hb4 HB3.out.size)
    clear hb4
    go_wp2_with fail
    refine HC3.out.mono ?_
    rintro e w5 ⟨rfl, hb5⟩
    have hb15 := btr HB4.out hb5 HB4.out.size
    have HB5 := Lib.hid hb15
    have x0 : w5.cell? ⟨w.heap.size, 0, none⟩ = some (.string tb) := (HBX.out w5 hb15).cell rfl
    have x1 : w5.cell? ⟨w.heap.size, 1, none⟩ = some (.slice a n cap) := (HBX.out w5 hb15).cell rfl
    have HI5 := Lib.hid (HIX.out w5 hb15)
    clear hb5 hb15 HC3 HIX
    by_cases g2 : G2 = 1
    case neg =>
      obtain rfl : R = false := by rw [← HR1.out]; simp [g2]
      have e3 : ((G2 : Int) == 1) = false := by simp; omega
      have e4 : ((G2 : Int) != 1) = true := by simp [bne, e3]
      have HBF := Lib.hid (btr HB1.out HB5.out HB1.out.size)
      go_wp2_with fail
      go_ret
      exact ⟨rfl, HBF.out⟩
    case pos =>
      subst g2
      have HR2 := Lib.hid (show (hd10 B && cnL [6, 7] B == 0) = R by rw [← HR1.out]; simp)
      have e3 : (((1 : Nat) : Int) == 1) = true := rfl
      have e4 : (((1 : Nat) : Int) != 1) = false := rfl
      clear HR1
      go_wp2_with fail
      refine HI5.out.mono ?_
      rintro e w6 ⟨rfl, hb6⟩
      have hb16 := btr HB5.out hb6 HB5.out.size
      have HB6 := Lib.hid hb16
      obtain ⟨gb, off, rfl, hlt, hra⟩ := (HH.out w6 hb16).at (i := k + 1) (x := q[k + 1]'(by rw [HN.out]; exact hk1)) (List.getElem?_eq_getElem _)
      have v0 : w6.cell? ⟨w.heap.size, 0, none⟩ = some (.string tb) := (HBX.out w6 hb16).cell rfl
      have v1 : w6.cell? ⟨w.heap.size, 1, none⟩ = some (.slice (some ⟨gb, off, none⟩) n cap) := (HBX.out w6 hb16).cell rfl
      have HLB := Lib.hid (show B.length = n - (k + 1) by rw [← HBD.out, List.length_drop, HN.out])
      have hb0 : B[0]? = some (q[k + 1]'(by rw [HN.out]; exact hk1)) := by rw [← HBD.out, List.getElem?_drop]; exact List.getElem?_eq_getElem _
      have HRB := Lib.hid (show ∀ V, Below w6.heap.size w6 V → RowA V (some ⟨gb, off + (k + 1) * 14, none⟩) B from fun V hV => by
        have := ((HH.out w6 hb16).drop (k + 1)).below hV
        rw [HBD.out] at this
        exact this)
      obtain ⟨x, hx⟩ : ∃ x, B[0]? = some x := ⟨_, hb0⟩
      obtain ⟨r, rfl⟩ : ∃ r, B = x :: r := by
        cases B with
        | nil => simp at hx
        | cons y r => simp at hx; exact ⟨r, by rw [hx]⟩
      have f0 : w6.cell? ⟨gb, off + (k + 1) * 14, none⟩ = some (.int .i64 x.op) := by
        obtain ⟨b', o', e1, -, hr⟩ := (HRB.out w6 (Below.refl _ _)).at (i := 0) (x := x) rfl
        injection e1 with e1
        injection e1 with e1 e2
        subst e1 e2
        exact hr 0 _ rfl
      have HCT := Lib.hid (count_any (w6.alloc (.cells #[.int .i64 6, .int .i64 7] 3)) (some ⟨gb, off + (k + 1) * 14, none⟩) (cap - (k + 1)) (x :: r) (HRB.out _ ((Below.refl _ _).alloc (Nat.le_refl _) _)) (by rw [HLB.out]; omega) (some ⟨w6.heap.size, 0, none⟩) 2 [6, 7] (ints_2 w6 6 7) (by decide))
      rw [HLB.out] at HCT
      have HR3 : ((x.op == 10) && cnL [6, 7] (x :: r) == 0) = R := HR2.out
      obtain ⟨C, hC⟩ : ∃ C, cnL [6, 7] (x :: r) = C := ⟨_, rfl⟩
      rw [hC] at HCT HR3
      have HBA := Lib.hid (show Below w6.heap.size w6 (w6.alloc (.cells #[.int .i64 6, .int .i64 7] 3)) from (Below.refl _ _).alloc (Nat.le_refl _) _)
      have hkw : IntKind.i64.wrap ((k : Int) + 1) = ((k + 1 : Nat) : Int) := by rw [IntWalk.i64_in _ (by omega)]; omega
      have hn1 : n - (k + 1) ≠ 0 := by omega
      have hcn : ¬ (cap = k + 1) := by omega
      have hz1 : (0 : Int) < ((n - (k + 1) : Nat) : Int) := by omega
      have q1 : (0 : Int) ≤ ((k + 1 : Nat) : Int) := by omega
      have q2 : ((k + 1 : Nat) : Int) ≤ (n : Int) := by omega
      have q3 : ((k + 1 : Nat) : Int) ≤ (cap : Int) := by omega
      clear hb6 HI5 hlt hra hb0 hx hC HR2
      have HC9 := Lib.hid hkw
      clear hkw q1 q2 q3 hz1 hb16
      have q1 : (k : Int) + 1 ≤ n := by omega
      have q2 : (k : Int) + 1 ≤ cap := by omega
      have hz2 : 0 < n - (k + 1) := by omega
      have HBF := Lib.hid (btr HB1.out HB6.out HB1.out.size)
      cases hop : x.op == 10 with
      | false =>
        obtain rfl : R = false := by rw [← HR3, hop]; rfl
        clear HR3
        go_wp2_with fail
        go_ret
        exact ⟨rfl, HBF.out⟩
      | true =>
        simp only [hop, Bool.true_and] at HR3
        have HR4 := Lib.hid HR3
        clear HR3
        go_wp2_with fail
        refine HCT.out.mono ?_
        rintro e w7 ⟨rfl, hb7⟩
        have HBG := Lib.hid (btr HBF.out (btr HBA.out hb7 HBA.out.size) HBF.out.size)
        clear hb7 HCT
        by_cases g3 : C = 0
        · have e5 : ((C : Int) == 0) = true := by rw [g3]; rfl
          have HR5 := Lib.hid (show R = true by rw [← HR4.out, g3]; rfl)
          go_wp2_with fail
          go_ret
          exact ⟨by rw [HR5.out]; rfl, HBG.out⟩
        · have e5 : ((C : Int) == 0) = false := by simp; omega
          have HR5 := Lib.hid (show R = false by rw [← HR4.out]; simp [g3])
          go_wp2_with fail
          go_ret
          exact ⟨by rw [HR5.out]; rfl, HBG.out⟩

end Go.Proofs.YtgndbhgpdcelpaaDoor
