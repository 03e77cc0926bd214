/-
  How many bytes a sign has (layer 12): contracts over the translation.
  Conditions: none.
-/
import Derived.Test.YtlhipnklljjahaaDoorLx5
import Derived.Test.YtlhipnklljjahaaDoorLx7
import Derived.Shelf.Small.Strs
namespace Go.Proofs.YtlhipnklljjahaaDoor
set_option maxRecDepth 100000
open Go.RowKit Go.Joins Go.ChangeShapes Go.WideShapes
set_option linter.unusedVariables false
set_option linter.unusedSimpArgs false

/-- the numbers that the library's text has here -/
def ibRen : Go.Shelf.Ren where
  f := fun x => match x with
    | 137 => 41
    | 217 => 50
    | 266 => 59
    | n => n
  t := fun x => match x with
    | 3 => 3
    | 5 => 5
    | 9 => 9
    | n => n
  g := fun x => x
theorem ibLays : Go.Proofs.Lays.n137 Tryd.prog ibRen :=
  { mixed := by kernel_rfl, f137 := Eq.trans Tryd.func41 (congrArg some rfl), f217 := Eq.trans Tryd.func50 (congrArg some rfl), f266 := Eq.trans Tryd.func59 (congrArg some rfl),
    t3 := Tryd.underlying3, a3 := Tryd.isAgg3, z3 := Tryd.sizeOf3, v3 := Tryd.zeroValue3,
    t5 := Tryd.underlying5, a5 := Tryd.isAgg5, z5 := Tryd.sizeOf5, v5 := Tryd.zeroValue5,
    t9 := Tryd.underlying9, a9 := Tryd.isAgg9, z9 := Tryd.sizeOf9, v9 := Tryd.zeroValue9 }
theorem ib_any (s : ByteArray) (c : Int) (w : World) : Calls Tryd.prog 41 #[.string s, .int .u8 c] w fun e w' => e = .returned (.int .i64 (Lib.indexByte s.data.toList c.toNat.toUInt8)) ∧ w = w' := by
  refine (Go.Proofs.Any.strings_IndexByte ibLays s c w).mono ?_
  rintro e w' ⟨rfl, rfl⟩
  exact ⟨rfl, rfl⟩

/-- a piece of a row of bytes as a text -/
theorem str_b {w : World} {b off : Nat} {l : List Nat} (h : IsB w b off l) (n cap : Nat) (hn : n ≤ l.length) : (convert 27 9 (.slice (some ⟨b, off, none⟩) n cap)).run Tryd.prog w = .ok (.string (strB (l.take n))) w := by
  have hlen : (l.take n).length = n := by rw [List.length_take]; omega
  refine run_convert_bytes_arg w 27 5 Tryd.underlying27 Tryd.underlying5 b off n cap ((l.take n).map fun n : Nat => (n : Int)) (by simpa using hlen) (fun i hi => ?_) 9 Tryd.underlying9
  have hi2 : i < (l.take n).length := by rw [hlen]; exact hi
  have hg : (l.take n)[i]? = some ((l.take n)[i]'hi2) := List.getElem?_eq_getElem hi2
  rw [(h.take n).c i _ hg]
  rw [List.getD_eq_getElem?_getD, List.getElem?_map, hg]
  rfl
theorem u8_eq {c : Nat} (hc : c < 256) (x : UInt8) : UInt8.ofNat c = x ↔ c = x.toNat :=
  ⟨fun h => by rw [← h, UInt8.toNat_ofNat', Nat.mod_eq_of_lt hc], fun h => by rw [h, UInt8.ofNat_toNat]⟩
theorem two_eq {c d : Nat} (hc : c < 256) (hd : d < 256) (x y : UInt8) : ((strB [c, d]).toList == [x, y]) = (c == x.toNat && d == y.toNat) := by
  rw [ByteArray.toList_eq, strB_data, Bool.eq_iff_iff]
  simp only [List.map_cons, List.map_nil, beq_iff_eq, List.cons.injEq, and_true, Bool.and_eq_true]
  rw [u8_eq hc, u8_eq hd]
theorem ib_signs : ∀ c, c < 256 → decide (0 ≤ Lib.indexByte [40, 41, 44, 46, 42, 43, 45, 47, 37, 61, 60, 62] (Nat.toUInt8 c)) = [40, 41, 44, 46, 42, 43, 45, 47, 37, 61, 60, 62].contains c := by
  decide
set_option maxHeartbeats 4000000 in
theorem signsz_any {w : World} {b off cap : Nat} {c d : Nat} {r : List Nat} (h : IsB w b off (c :: d :: r)) (hl : (c :: d :: r).length ≤ cap) :
    Calls Tryd.prog 34 #[.slice (some ⟨b, off, none⟩) (c :: d :: r).length cap] w fun e w' => e = .returned (.int .i64 (signL (c :: d :: r) : Nat)) ∧ w = w' := by
  have hv : (convert 27 9 (.slice (some ⟨b, off, none⟩) 2 cap)).run Tryd.prog w = .ok (.string (strB [c, d])) w := str_b h 2 cap (by simp)
  have d0 : w.cell? ⟨b, off, none⟩ = some (.int .u8 (c : Int)) := h.c 0 c rfl
  have hc : c < 256 := h.lt c (by simp)
  have hd : d < 256 := h.lt d (by simp)
  have t1 := two_eq hc hd 60 62
  have t2 := two_eq hc hd 60 61
  have t3 := two_eq hc hd 62 61
  have t4 := two_eq hc hd 124 124
  have t5 := ib_signs c hc
  have HI := ib_any ⟨#[40, 41, 44, 46, 42, 43, 45, 47, 37, 61, 60, 62]⟩ (c : Int) w
  rw [show ((c : Int)).toNat = c from rfl] at HI
  obtain ⟨n, hn⟩ : ∃ n, (c :: d :: r).length = n := ⟨_, rfl⟩
  obtain ⟨q, hq⟩ : ∃ q, signL (c :: d :: r) = q := ⟨_, rfl⟩
  rw [hn] at hl ⊢
  rw [hq]
  have h2 : 2 ≤ n := by rw [← hn]; simp
  have hq2 : (if ((c == (60 : UInt8).toNat && d == (62 : UInt8).toNat) || (c == (60 : UInt8).toNat && d == (61 : UInt8).toNat) || (c == (62 : UInt8).toNat && d == (61 : UInt8).toNat) || (c == (124 : UInt8).toNat && d == (124 : UInt8).toNat)) = true then 2 else if [40, 41, 44, 46, 42, 43, 45, 47, 37, 61, 60, 62].contains c = true then 1 else 0) = q := hq
  clear hq hn
  generalize Lib.indexByte (⟨#[40, 41, 44, 46, 42, 43, 45, 47, 37, 61, 60, 62]⟩ : ByteArray).data.toList (Nat.toUInt8 c) = u at *
  have t5' : decide (0 ≤ u) = [40, 41, 44, 46, 42, 43, 45, 47, 37, 61, 60, 62].contains c := t5
  clear t5
  generalize (c == (60 : UInt8).toNat && d == (62 : UInt8).toNat) = v1 at *
  generalize (c == (60 : UInt8).toNat && d == (61 : UInt8).toNat) = v2 at *
  generalize (c == (62 : UInt8).toNat && d == (61 : UInt8).toNat) = v3 at *
  generalize (c == (124 : UInt8).toNat && d == (124 : UInt8).toNat) = v4 at *
  generalize [40, 41, 44, 46, 42, 43, 45, 47, 37, 61, 60, 62].contains c = v5 at *
  have HI := Lib.hid HI
  have HQ := Lib.hid hq2
  clear hq2 hc hd h
  have k1 : (1 : Int) < (n : Int) := by omega
  have k2 : (2 : Int) ≤ (cap : Int) := by omega
  cases v1 <;> cases v2 <;> cases v3 <;> cases v4 <;> cases v5
  all_goals
    go_enter Tryd.func34, Tryd.ntmps34
    go_wp2_with (first | (go_at_call 41; refine HI.out.mono ?_; rintro e w' ⟨rfl, rfl⟩))
    go_ret
    exact ⟨ret_i (by rw [← HQ.out]; rfl), rfl⟩
set_option maxHeartbeats 2000000 in
theorem signsz1_any {w : World} {b off cap : Nat} {c : Nat} (h : IsB w b off [c]) (hl : 1 ≤ cap) :
    Calls Tryd.prog 34 #[.slice (some ⟨b, off, none⟩) 1 cap] w fun e w' => e = .returned (.int .i64 (signL [c] : Nat)) ∧ w = w' := by
  have d0 : w.cell? ⟨b, off, none⟩ = some (.int .u8 (c : Int)) := h.c 0 c rfl
  have hc : c < 256 := h.lt c (by simp)
  have t5 := ib_signs c hc
  have HI := ib_any ⟨#[40, 41, 44, 46, 42, 43, 45, 47, 37, 61, 60, 62]⟩ (c : Int) w
  rw [show ((c : Int)).toNat = c from rfl] at HI
  obtain ⟨q, hq⟩ : ∃ q, signL [c] = q := ⟨_, rfl⟩
  rw [hq]
  have hq2 : (if [40, 41, 44, 46, 42, 43, 45, 47, 37, 61, 60, 62].contains c = true then 1 else 0) = q := hq
  clear hq
  generalize Lib.indexByte (⟨#[40, 41, 44, 46, 42, 43, 45, 47, 37, 61, 60, 62]⟩ : ByteArray).data.toList (Nat.toUInt8 c) = u at *
  have t5' : decide (0 ≤ u) = [40, 41, 44, 46, 42, 43, 45, 47, 37, 61, 60, 62].contains c := t5
  clear t5
  generalize [40, 41, 44, 46, 42, 43, 45, 47, 37, 61, 60, 62].contains c = v5 at *
  have HI := Lib.hid HI
  have HQ := Lib.hid hq2
  clear hq2 hc h
  cases v5
  all_goals
    go_enter Tryd.func34, Tryd.ntmps34
    go_wp2_with (first | (go_at_call 41; refine HI.out.mono ?_; rintro e w' ⟨rfl, rfl⟩))
    go_ret
    exact ⟨ret_i (by rw [← HQ.out]; rfl), rfl⟩
theorem signsize_any {w : World} {b off cap : Nat} {l : List Nat} (h : IsB w b off l) (h0 : l ≠ []) (hl : l.length ≤ cap) :
    Calls Tryd.prog 34 #[.slice (some ⟨b, off, none⟩) l.length cap] w fun e w' => e = .returned (.int .i64 (signL l : Nat)) ∧ w = w' := by
  match l with
  | [] => exact absurd rfl h0
  | [c] => exact signsz1_any h hl
  | c :: d :: r => exact signsz_any h hl

end Go.Proofs.YtlhipnklljjahaaDoor
