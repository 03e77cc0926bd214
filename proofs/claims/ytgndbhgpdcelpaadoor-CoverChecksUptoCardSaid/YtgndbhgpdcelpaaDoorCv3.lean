/-
  The modes of a plan's table, the instructions of a cursor, counts: contracts over the translation.
  Conditions: the row lies in memory.
-/
import Derived.Test.YtgndbhgpdcelpaaDoorCv2
import Derived.Test.YtgndbhgpdcelpaaDoorMd3
namespace Go.Proofs.YtgndbhgpdcelpaaDoor
set_option maxRecDepth 100000
open Go.RowKit Go.Joins Go.ChangeShapes Go.WideShapes
set_option linter.unusedVariables false
set_option linter.unusedSimpArgs false

/-- a table's mode -/
def lkB (t : ByteArray) (x : Ins) : Bool := x.op == 1 && x.tab.toList == t.toList
def mdL (t : ByteArray) : List Ins → Int → Int
  | [], m => m
  | x :: r, m => mdL t r (if lkB t x then jnI m x.mode else m)
theorem mdL_snoc (t : ByteArray) (x : Ins) : ∀ (l : List Ins) (m : Int), mdL t (l ++ [x]) m = if lkB t x then jnI (mdL t l m) x.mode else mdL t l m
  | [], m => rfl
  | y :: r, m => by rw [List.cons_append, mdL, mdL, mdL_snoc t x r]
theorem take_snoc' {α : Type} {l : List α} {k : Nat} {x : α} (h : l[k]? = some x) : l.take (k + 1) = l.take k ++ [x] := by
  rw [List.take_add_one, h]; rfl
/-- the checker as it is handed on -/
def ckV (tb : ByteArray) (a : Option Addr) (n c : Nat) : Value := .agg #[.string tb, .slice a n c]
theorem n14 {w : World} {g : Nat} {x : Ins} {T : TypeId} (h : Bx w g x.enc.toArray T) : w.cell? ⟨g, 0, none⟩ = some (.int .i64 x.op) ∧ w.cell? ⟨g, 1, none⟩ = some (.int .i64 x.c) ∧ w.cell? ⟨g, 2, none⟩ = some (.int .i64 x.jt) ∧ w.cell? ⟨g, 3, none⟩ = some (.int .i64 x.mode) ∧ w.cell? ⟨g, 4, none⟩ = some (.int .i64 x.part) ∧ w.cell? ⟨g, 5, none⟩ = some (.string x.tab) ∧ w.cell? ⟨g, 6, none⟩ = some (.int .i64 x.idx) :=
  ⟨h.cell rfl, h.cell rfl, h.cell rfl, h.cell rfl, h.cell rfl, h.cell rfl, h.cell rfl⟩
/-- the checker's box -/
theorem ck_box {w W1 : World} {v0 v1 : Value} {T : TypeId} (h : w.alloc (.cells #[v0, v1] T) = W1) : Hid (Below w.heap.size w W1) ∧ W1.cell? ⟨w.heap.size, 0, none⟩ = some v0 ∧ W1.cell? ⟨w.heap.size, 1, none⟩ = some v1 ∧ W1.heap.size = w.heap.size + 1 ∧ Bx W1 w.heap.size #[v0, v1] T := by
  subst h
  have hn := Bx.new w #[v0, v1] T
  exact ⟨Lib.hid ((Below.refl _ _).alloc (Nat.le_refl _) _), hn.cell rfl, hn.cell rfl, by simp, hn⟩
set_option maxHeartbeats 4000000 in
set_option maxRecDepth 100000 in
theorem mode_any (w : World) (hT : TabB w 0 cvL) (tb : ByteArray) (a : Option Addr) (cap : Nat) (q : List Ins) (h : RowA w a q) (hm : q.length ≤ 1048576) (t : ByteArray) :
    Calls Tryd.prog 33 #[.agg #[.string tb, .slice a q.length cap], .string t] w fun e w' => e = .returned (.int .i64 (mdL t q 0)) ∧ Below w.heap.size w w' := by
  obtain ⟨n, hn⟩ : ∃ n, q.length = n := ⟨_, rfl⟩
  have HN := Lib.hid hn
  have HTB := Lib.hid (fun (wx : World) (hb : Below w.heap.size w wx) => TabB.below hT hb)
  have HO := Lib.hid (fun (wx : World) (hb : Below w.heap.size w wx) => RowA.below h hb)
  rw [hn] at hm ⊢
  have HF := Lib.hid (show mdL t (q.take n) 0 = mdL t q 0 by rw [← hn, List.take_length])
  obtain ⟨R, hR⟩ : ∃ R, mdL t q 0 = R := ⟨_, rfl⟩
  rw [hR] at HF ⊢
  clear hR hn hT h
  obtain ⟨W1, hW1⟩ : ∃ W1, w.alloc (.cells #[.string tb, .slice a n cap] 37) = W1 := ⟨_, rfl⟩
  obtain ⟨HB1, z0, z1, -, -⟩ := ck_box hW1
  go_enter Tryd.func33, Tryd.ntmps33
  go_wp2_with fail
  try rw [hW1]
  clear hW1
  go_loopw [5, 12] (fun m i wr => ∃ k : Nat, k ≤ n ∧ i = .int .i64 k ∧ m = .int .i64 (mdL t (q.take k) 0) ∧ Hid (Below w.heap.size w wr)) (fun _ i _ => n - (intOf i).toNat)
  case atStart => exact ⟨0, Nat.zero_le _, rfl, rfl, HB1⟩
  case round =>
    obtain ⟨k, hk, rfl, rfl, HB⟩ := hrel
    obtain ⟨M, hM⟩ : ∃ M, mdL t (q.take k) 0 = M := ⟨_, rfl⟩
    rw [hM]
    have HM := Lib.hid hM
    clear hM
    by_cases c : k < n
    · have c1 : (k : Int) < (n : Int) := by omega
      obtain ⟨x, hl⟩ : ∃ l, q[k]? = some l := ⟨_, List.getElem?_eq_getElem (by rw [HN.out]; exact c)⟩
      obtain ⟨gb, off, rfl, -, hra⟩ := RowA.at (HO.out wr HB.out) hl
      have HL := Lib.hid hl
      have HLD := Lib.hid (ld_I hra)
      obtain ⟨wz, hst, hbz, hbx⟩ := put_I wr x
      have HST := Lib.hid hst
      have HBZ := Lib.hid (btr HB.out hbz HB.out.size)
      obtain ⟨f0, -, -, f3, -, f5, -⟩ := n14 hbx
      have HSN := Lib.hid (mdL_snoc t x (q.take k) 0)
      have HTK := Lib.hid (take_snoc' hl)
      have HJ := Lib.hid (join_any M x.mode wz (HTB.out wz HBZ.out))
      obtain ⟨X, hX⟩ : ∃ X, x.val = X := ⟨_, rfl⟩
      rw [hX] at HST HLD
      clear hl hra hX hst hbz hbx
      cases hc1 : x.op == 1 with
      | false =>
        have HMN := Lib.hid (show mdL t (q.take (k + 1)) 0 = M by
          rw [HTK.out, HSN.out, HM.out, lkB, hc1]; rfl)
        go_wp2_with (first | (refine wpLd rfl _ rfl rfl HLD.out ?_; clear HLD) | (refine wpSt rfl _ _ rfl rfl rfl HST.out ?_; clear HST))
        go_roundw
        case rel => exact ⟨k + 1, by omega, by go_num, by rw [HMN.out], HBZ⟩
        case measure => simp [intOf]; omega
      | true =>
        cases hc2 : x.tab.toList == t.toList with
        | false =>
          have HMN := Lib.hid (show mdL t (q.take (k + 1)) 0 = M by
            rw [HTK.out, HSN.out, HM.out, lkB, hc1, hc2]; rfl)
          go_wp2_with (first | (refine wpLd rfl _ rfl rfl HLD.out ?_; clear HLD) | (refine wpSt rfl _ _ rfl rfl rfl HST.out ?_; clear HST))
          go_roundw
          case rel => exact ⟨k + 1, by omega, by go_num, by rw [HMN.out], HBZ⟩
          case measure => simp [intOf]; omega
        | true =>
          have HMN := Lib.hid (show mdL t (q.take (k + 1)) 0 = jnI M x.mode by
            rw [HTK.out, HSN.out, HM.out, lkB, hc1, hc2]; rfl)
          go_wp2_with (first | (refine wpLd rfl _ rfl rfl HLD.out ?_; clear HLD) | (refine wpSt rfl _ _ rfl rfl rfl HST.out ?_; clear HST))
          refine HJ.out.mono ?_
          rintro e w' ⟨rfl, rfl⟩
          go_wp2_with fail
          go_roundw
          case rel => exact ⟨k + 1, by omega, by go_num, by rw [HMN.out], HBZ⟩
          case measure => simp [intOf]; omega
    · obtain rfl : k = n := by omega
      obtain rfl : M = R := by rw [← HM.out, HF.out]
      have cf : decide ((k : Int) < (k : Int)) = false := by simp
      go_wp2_with fail
      go_ret
      exact ⟨rfl, HB.out⟩

/-- how many have one of these operators -/
def cnL (ops : List Int) (q : List Ins) : Nat := (q.filter fun x => ops.any fun o => x.op == o).length
theorem cnL_snoc (ops : List Int) (x : Ins) (l : List Ins) : cnL ops (l ++ [x]) = if (ops.any fun o => x.op == o) then cnL ops l + 1 else cnL ops l := by
  unfold cnL
  rw [List.filter_append, List.length_append]
  cases h : ops.any fun o => x.op == o with
  | true => rw [List.filter_cons_of_pos (by simpa using h)]; simp
  | false => rw [List.filter_cons_of_neg (by show ¬ ((ops.any fun o => x.op == o) = true); rw [h]; decide)]; simp
theorem cnL_le (ops : List Int) (l : List Ins) : cnL ops l ≤ l.length := List.length_filter_le _ _
set_option maxHeartbeats 4000000 in
set_option maxRecDepth 100000 in
theorem count_any (w : World) (a : Option Addr) (cap : Nat) (q : List Ins) (h : RowA w a q) (hm : q.length ≤ 1048576) (oa : Option Addr) (oc : Nat) (ops : List Int) (ho : IntsA w oa ops) (hom : ops.length ≤ 1048576) :
    Calls Tryd.prog 31 #[.slice a q.length cap, .slice oa ops.length oc] w fun e w' => e = .returned (.int .i64 (cnL ops q)) ∧ Below w.heap.size w w' := by
  obtain ⟨n, hn⟩ : ∃ n, q.length = n := ⟨_, rfl⟩
  have HN := Lib.hid hn
  have HO := Lib.hid (fun (wx : World) (hb : Below w.heap.size w wx) => RowA.below h hb)
  have HC := Lib.hid (fun (wx : World) (hb : Below w.heap.size w wx) (v : Int) => cont_i wx oa oc ops (IntsA.below ho hb) (by omega) v)
  rw [hn] at hm ⊢
  have HF := Lib.hid (show cnL ops (q.take n) = cnL ops q by rw [← hn, List.take_length])
  obtain ⟨R, hR⟩ : ∃ R, cnL ops q = R := ⟨_, rfl⟩
  rw [hR] at HF ⊢
  have HLE := Lib.hid (fun k => Nat.le_trans (cnL_le ops (q.take k)) (List.length_take_le k q))
  generalize ops.length = m at HC ⊢
  clear hR hn ho h hom
  go_enter Tryd.func31, Tryd.ntmps31
  go_wp2_with fail
  go_loopw [5, 10] (fun m i wr => ∃ k : Nat, k ≤ n ∧ i = .int .i64 k ∧ m = .int .i64 (cnL ops (q.take k)) ∧ Hid (Below w.heap.size w wr)) (fun _ i _ => n - (intOf i).toNat)
  case atStart => exact ⟨0, Nat.zero_le _, rfl, rfl, Below.refl _ _⟩
  case round =>
    obtain ⟨k, hk, rfl, rfl, HB⟩ := hrel
    have hle := HLE.out k
    obtain ⟨M, hM⟩ : ∃ M, cnL ops (q.take k) = M := ⟨_, rfl⟩
    rw [hM] at hle ⊢
    have HM := Lib.hid hM
    clear hM
    by_cases c : k < n
    · have c1 : (k : Int) < (n : Int) := by omega
      obtain ⟨x, hl⟩ : ∃ l, q[k]? = some l := ⟨_, List.getElem?_eq_getElem (by rw [HN.out]; exact c)⟩
      obtain ⟨gb, off, rfl, -, hra⟩ := RowA.at (HO.out wr HB.out) hl
      have HL := Lib.hid hl
      have HLD := Lib.hid (ld_I hra)
      obtain ⟨wz, hst, hbz, hbx⟩ := put_I wr x
      have HST := Lib.hid hst
      have HBZ := Lib.hid (btr HB.out hbz HB.out.size)
      obtain ⟨f0, -, -, -, -, -, -⟩ := n14 hbx
      have HSN := Lib.hid (cnL_snoc ops x (q.take k))
      have HTK := Lib.hid (take_snoc' hl)
      have HJ := Lib.hid (HC.out wz HBZ.out x.op)
      obtain ⟨X, hX⟩ : ∃ X, x.val = X := ⟨_, rfl⟩
      rw [hX] at HST HLD
      clear hl hra hX hst hbz hbx
      obtain ⟨b, hb⟩ : ∃ b, (ops.any fun o => x.op == o) = b := ⟨_, rfl⟩
      rw [hb] at HJ
      have HPB := Lib.hid hb
      clear hb
      have hle2 : (M : Int) ≤ 1048576 := by omega
      cases b with
      | false =>
        have HMN := Lib.hid (show cnL ops (q.take (k + 1)) = M by
          rw [HTK.out, HSN.out, HM.out, HPB.out]; rfl)
        go_wp2_with (first | (refine wpLd rfl _ rfl rfl HLD.out ?_; clear HLD) | (refine wpSt rfl _ _ rfl rfl rfl HST.out ?_; clear HST))
        refine HJ.out.mono ?_
        rintro e w' ⟨rfl, rfl⟩
        go_wp2_with fail
        go_roundw
        case rel => exact ⟨k + 1, by omega, by go_num, by rw [HMN.out], HBZ⟩
        case measure => simp [intOf]; omega
      | true =>
        have HMN := Lib.hid (show cnL ops (q.take (k + 1)) = M + 1 by
          rw [HTK.out, HSN.out, HM.out, HPB.out]; rfl)
        go_wp2_with (first | (refine wpLd rfl _ rfl rfl HLD.out ?_; clear HLD) | (refine wpSt rfl _ _ rfl rfl rfl HST.out ?_; clear HST))
        refine HJ.out.mono ?_
        rintro e w' ⟨rfl, rfl⟩
        go_wp2_with fail
        go_roundw
        case rel => exact ⟨k + 1, by omega, by go_num, by rw [HMN.out]; go_num, HBZ⟩
        case measure => simp [intOf]; omega
    · obtain rfl : k = n := by omega
      obtain rfl : M = R := by rw [← HM.out, HF.out]
      have cf : decide ((k : Int) < (k : Int)) = false := by simp
      go_wp2_with fail
      go_ret
      exact ⟨rfl, HB.out⟩

end Go.Proofs.YtgndbhgpdcelpaaDoor
