/-
  The instructions of a plan's cursor: a contract over the translation.
  Conditions: the row lies in memory.
-/
import Derived.Test.YtgndbhgpdcelpaaDoorCv3
namespace Go.Proofs.YtgndbhgpdcelpaaDoor
set_option maxRecDepth 100000
open Go.RowKit Go.Joins Go.ChangeShapes Go.WideShapes
set_option linter.unusedVariables false
set_option linter.unusedSimpArgs false

/-- the instructions of a cursor -/
def ocB (op c : Int) (x : Ins) : Bool := x.op == op && x.c == c
theorem oc_snoc (op c : Int) (x : Ins) (l : List Ins) : (l ++ [x]).filter (ocB op c) = if ocB op c x then l.filter (ocB op c) ++ [x] else l.filter (ocB op c) := by
  rw [List.filter_append]
  cases h : ocB op c x with
  | true => rw [List.filter_cons_of_pos (by simpa using h)]; simp
  | false => rw [List.filter_cons_of_neg (by simpa using h)]; simp
set_option maxHeartbeats 8000000 in
set_option maxRecDepth 100000 in
theorem ofc_any (w : World) (tb : ByteArray) (a : Option Addr) (cap : Nat) (q : List Ins) (h : RowA w a q) (hm : q.length ≤ 1048576) (op c : Int) :
    Calls Tryd.prog 40 #[.agg #[.string tb, .slice a q.length cap], .int .i64 op, .int .i64 c] w fun e w' => ∃ v, e = .returned v ∧ OwR KI w' w.heap.size v (q.filter (ocB op c)) ∧ Below w.heap.size w w' := by
  obtain ⟨n, hn⟩ : ∃ n, q.length = n := ⟨_, rfl⟩
  have HN := Lib.hid hn
  have HO := Lib.hid (fun (wx : World) (hb : Below w.heap.size w wx) => RowA.below h hb)
  rw [hn] at hm ⊢
  have HF := Lib.hid (show (q.take n).filter (ocB op c) = q.filter (ocB op c) by rw [← hn, List.take_length])
  obtain ⟨R, hR⟩ : ∃ R, q.filter (ocB op c) = R := ⟨_, rfl⟩
  rw [hR] at HF ⊢
  have HLE := Lib.hid (fun k => Nat.le_trans (List.length_filter_le (ocB op c) (q.take k)) (List.length_take_le k q))
  clear hR hn h
  generalize hP : (fun (e : Ending) (w' : World) => ∃ v, e = .returned v ∧ OwR KI w' w.heap.size v R ∧ Below w.heap.size w w') = P
  have HP := Lib.hid hP
  clear hP
  obtain ⟨W1, hW1⟩ : ∃ W1, w.alloc (.cells #[.string tb, .slice a n cap] 37) = W1 := ⟨_, rfl⟩
  obtain ⟨HB1, z0, z1, -, -⟩ := ck_box hW1
  go_enter Tryd.func40, Tryd.ntmps40
  go_wp2_with fail
  try rw [hW1]
  clear hW1
  go_loopw [7, 14] (fun m i wr => ∃ k : Nat, k ≤ n ∧ i = .int .i64 k ∧ Hid (EnR KI w wr m ((q.take k).filter (ocB op c)))) (fun _ i _ => n - (intOf i).toNat)
  case atStart => exact ⟨0, Nat.zero_le _, rfl, ⟨OwR.nil _ _, HB1.out⟩⟩
  case round =>
    obtain ⟨k, hk, rfl, HE⟩ := hrel
    have hle := HLE.out k
    obtain ⟨L, hL⟩ : ∃ L, (q.take k).filter (ocB op c) = L := ⟨_, rfl⟩
    rw [hL] at hle HE
    have HL0 := Lib.hid hL
    have HLE2 := Lib.hid hle
    clear hL hle
    by_cases c0 : k < n
    · have c1 : (k : Int) < (n : Int) := by omega
      obtain ⟨x, hl⟩ : ∃ l, q[k]? = some l := ⟨_, List.getElem?_eq_getElem (by rw [HN.out]; exact c0)⟩
      obtain ⟨gb, off, rfl, -, hra⟩ := RowA.at (HO.out wr HE.out.bel) hl
      have HL := Lib.hid hl
      have HLD := Lib.hid (ld_I hra)
      obtain ⟨wz, hst, hbz, hbx⟩ := put_I wr x
      have HST := Lib.hid hst
      have HEZ := Lib.hid (HE.out.below hbz)
      obtain ⟨f0, f1, -, -, -, -, -⟩ := n14 hbx
      have HLX := Lib.hid (ld_I (b := wr.heap.size) (o := 0) (x := x) fun j v hj => by rw [Nat.zero_add]; exact hbx.cell (by simpa using hj))
      have HSN := Lib.hid (oc_snoc op c x (q.take k))
      have HTK := Lib.hid (take_snoc' hl)
      have hbC : Below wz.heap.size wz (wz.alloc (.cells x.enc.toArray 33)) := (Below.refl _ _).alloc (Nat.le_refl _) _
      have HEC := Lib.hid (HEZ.out.below hbC)
      have HNW := Lib.hid (one_new KI wz x x.enc.toArray (by simp [KI]))
      have HSZ := Lib.hid HEC.out.bel.size
      have HLN := Lib.hid (show L.length + 1 ≤ 4294967297 by have := HLE2.out; omega)
      rw [show x.enc.toArray = #[.int .i64 x.op, .int .i64 x.c, .int .i64 x.jt, .int .i64 x.mode, .int .i64 x.part, .string x.tab, .int .i64 x.idx, .slice x.lo.a x.lo.n x.lo.c, .slice x.hi.a x.hi.n x.hi.c, .bool x.lx, .bool x.hx, .slice x.e.a x.e.n x.e.c, .int .i64 x.n, .slice x.ds.a x.ds.n x.ds.c] from rfl] at HEC HNW HSZ
      unfold Ins.val at HLX
      obtain ⟨X, hX⟩ : ∃ X, x.val = X := ⟨_, rfl⟩
      rw [hX] at HST HLD
      clear hl hra hX hst hbz hbx hbC
      cases hc1 : x.op == op with
      | false =>
        have HMN := Lib.hid (show (q.take (k + 1)).filter (ocB op c) = L by
          rw [HTK.out, HSN.out, HL0.out, ocB, hc1]; rfl)
        go_wp2_with (first | (refine wpLd rfl _ rfl rfl HLD.out ?_; clear HLD) | (refine wpSt rfl _ _ rfl rfl rfl HST.out ?_; clear HST))
        go_roundw
        case rel => exact ⟨k + 1, by omega, by go_num, by rw [HMN.out]; exact HEZ⟩
        case measure => simp [intOf]; omega
      | true =>
        cases hc2 : x.c == c with
        | false =>
          have HMN := Lib.hid (show (q.take (k + 1)).filter (ocB op c) = L by
            rw [HTK.out, HSN.out, HL0.out, ocB, hc1, hc2]; rfl)
          go_wp2_with (first | (refine wpLd rfl _ rfl rfl HLD.out ?_; clear HLD) | (refine wpSt rfl _ _ rfl rfl rfl HST.out ?_; clear HST))
          go_roundw
          case rel => exact ⟨k + 1, by omega, by go_num, by rw [HMN.out]; exact HEZ⟩
          case measure => simp [intOf]; omega
        | true =>
          have HMN := Lib.hid (show (q.take (k + 1)).filter (ocB op c) = L ++ [x] by
            rw [HTK.out, HSN.out, HL0.out, ocB, hc1, hc2]; rfl)
          go_wp2_with (first | (refine wpLd rfl _ rfl rfl HLD.out ?_; clear HLD) | (refine wpSt rfl _ _ rfl rfl rfl HST.out ?_; clear HST) | (refine wpLd rfl _ rfl rfl HLX.out ?_; clear HLX) | (at_builtin; refine OwR.wp (K := KI) rfl _ _ rfl w.heap.size u7 _ rfl HEC.out.own HSZ.out ⟨_, 0, none⟩ 1 _ [x] rfl rfl HNW.out HLN.out ?_; intro v' w6 q6 g6 n6; have HK6 := Lib.hid (HEC.out.push q6 g6); clear q6 g6 n6))
          go_roundw
          case rel => exact ⟨k + 1, by omega, by go_num, by rw [HMN.out]; exact HK6⟩
          case measure => simp [intOf]; omega
    · obtain rfl : k = n := by omega
      obtain rfl : L = R := by rw [← HL0.out, HF.out]
      have cf : decide ((k : Int) < (k : Int)) = false := by simp
      go_wp2_with fail
      rw [← HP.out]
      exact ⟨_, rfl, HE.out.own, HE.out.bel⟩

end Go.Proofs.YtgndbhgpdcelpaaDoor
