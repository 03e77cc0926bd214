/-
  Texts of mine put together, in build order.
  Conditions: as each declaration says.
-/
import Derived.Shelf.Strconv.ParseIntPublic10
import Derived.ArgAppend
import Derived.Laws.AppendOwnNone
import Derived.Lib.AppendZeros
import Derived.Lib.SliceRun
import Derived.Test.YtofnkfjhmjecjaaGreatDoorZp1
import Derived.Test.YtofnkfjhmjecjaaGreatDoorZp3
namespace Go.Proofs.YtofnkfjhmjecjaaGreatDoor
set_option maxRecDepth 100000
open Go.RowKit Go.Joins Go.ChangeShapes Go.WideShapes
set_option linter.unusedVariables false
set_option linter.unusedSimpArgs false
theorem low_b : ∀ x, x < 256 → Lib.lowerB (UInt8.ofNat x) = UInt8.ofNat (lowL x) := by
 decide
theorem iw_lt : ∀ x, x < 256 → iwL x = true → x < 128 := by
 decide
theorem runL_all (f : Nat → Bool) : ∀ (l : List Nat) (x : Nat), x ∈ l.take (runL f l) → f x = true
 | [], x, h => by simp at h
 | c :: r, x, h => by
  rw [runL_cons] at h
  cases hc : f c with
  | false => rw [hc] at h; simp at h
  | true =>
   rw [hc, if_pos rfl, List.take_succ_cons] at h
   rcases List.mem_cons.1 h with e | e
   ·rw [e]; exact hc
   ·exact runL_all f r x e
theorem fresh_str {B : Nat} {w : World} {v : Value} {lw : List UInt8} (h : Lib.FreshBytes B w v lw) : ∃ s, (convert 78 9 v).run Tryz.prog w = .ok (.string s) w ∧ s.data.toList = lw := by
 obtain ⟨g, cap, zs, rfl, hB, hl, hm, hz, hr, hb, hc, hf⟩ := h
 refine ⟨strOfNums (zs.take lw.length), run_convert_bytes_arg w 78 5 Tryz.underlying78 Tryz.underlying5 g 0 lw.length cap (zs.take lw.length) (by rw [List.length_take]; omega) (fun i hi => ?_) 9 Tryz.underlying9, ?_⟩
 ·rw [Nat.zero_add, hc i (by omega)]
  rw [List.getD_eq_getElem?_getD, List.getD_eq_getElem?_getD, List.getElem?_take, if_pos hi]
 ·rw [strOfNums_data]
  exact hb
def wrdE (l : List Nat) : Except Nat (Tk × Nat) := if runL iwL l > 32 then .error 122 else .ok (⟨1, (l.take (runL iwL l)).map lowL, 0, 0⟩, runL iwL l)
theorem low_str {l : List Nat} (hl : ∀ x ∈ l, x < 256) {s : ByteArray} (h : s.data.toList = Lib.toLowerA (Lib.bytesOf (l.map fun n : Nat => (n : Int)))) : s = strB (l.map lowL) := by
 have h2 : s.data.toList = (strB (l.map lowL)).data.toList := by
  rw [h, strB_data]
  unfold Lib.toLowerA Lib.bytesOf
  rw [List.map_map, List.map_map, List.map_map]
  refine List.map_congr_left fun x hx => ?_
  exact low_b x (hl x hx)
 cases s with
 | mk d =>
  cases hb : strB (l.map lowL) with
  | mk e =>
   rw [hb] at h2
   have e2 : d = e := Array.toList_inj.1 h2
   rw [e2]
set_option maxHeartbeats 2000000 in
theorem word_any {w : World} {rd b off cap : Nat} {c : Nat} {r : List Nat} (h : Rd w rd b off cap (c :: r)) (hbw : bwL c = true) :
  Calls Tryz.prog 97 #[.pointer (some ⟨rd, 0, none⟩)] w (TokP (wrdE (c :: r)) w rd b (c :: r)) := by
 have hk0 : 0 < runL iwL (c :: r) := by rw [runL_cons, if_pos (by unfold iwL; rw [hbw]; rfl)]; omega
 have hasc := fun x hx => iw_lt x (h.is.lt x (List.mem_of_mem_take hx)) (runL_all iwL (c :: r) x hx)
 have hlt : ∀ x ∈ (c :: r).take (runL iwL (c :: r)), x < 256 := fun x hx => h.is.lt x (List.mem_of_mem_take hx)
 have hkl := runL_le iwL (c :: r)
 have hne : (c :: r) ≠ [] := by simp
 generalize (c :: r) = l at *
 have b1 : Below w.heap.size w (w.alloc (.cells #[.int .i64 0, .string ⟨#[]⟩, .int .i64 0, .int .i64 0] 84)) := (Below.refl _ _).alloc (Nat.le_refl _) _
 have h1 := h.below b1
 have hbl : b < w.heap.size := h.is.hb (List.length_pos_iff.2 hne)
 have hrd : rd < w.heap.size := (Array.getElem?_eq_some_iff.1 h.hd).1
 have HT := Lib.hid (pass_any inword_any (enters_of Tryz.func159 (by kernel_rfl) rfl) h1)
 have HI := Lib.hid h1.is
 have hcap : runL iwL l ≤ 4294967296 := by have := h.ln; omega
 have HB := Lib.hid (show ¬ b = rd from fun e => h.ne e.symm)
 unfold wrdE
 generalize runL iwL l = q at *
 have hnew := heap_alloc_new w (.cells #[.int .i64 0, .string ⟨#[]⟩, .int .i64 0, .int .i64 0] 84)
 have HN := Lib.hid hnew
 have HBel := Lib.hid b1
 have hsz : w.heap.size < (w.alloc (.cells #[.int .i64 0, .string ⟨#[]⟩, .int .i64 0, .int .i64 0] 84)).heap.size := by simp
 have HZ := Lib.hid hsz
 have HA := Lib.hid hasc
 have HL := Lib.hid hlt
 have HK := Lib.hid hkl
 clear h h1 b1 hnew hsz hasc hlt hkl
 by_cases c1 : q > 32
 ·rw [if_pos c1]
  generalize hP : TokP (.error 122) w rd b l = P
  have HP := Lib.hid hP
  clear hP
  go_enter Tryz.func97, Tryz.ntmps97
  go_wp2_with fail
  go_at_call 35
  refine HT.out.mono ?_
  rintro e w2 ⟨rfl, off', cap', r2, f2⟩
  have hbx : w2.heap[w.heap.size]? = some (.cells #[.int .i64 0, .string ⟨#[]⟩, .int .i64 0, .int .i64 0] 84 (0, 0)) := (f2.heap HZ.out (by omega)).trans HN.out
  have HX := Lib.hid (show P (.returned (.tuple #[Tkv 0 ⟨#[]⟩ 0 0, .int .i64 122])) ((((w2.setCell ⟨w.heap.size, 0, none⟩ (.int .i64 0)).setCell ⟨w.heap.size, 1, none⟩ (.string ⟨#[]⟩)).setCell ⟨w.heap.size, 2, none⟩ (.int .i64 0)).setCell ⟨w.heap.size, 3, none⟩ (.int .i64 0)) by
   rw [← HP.out]
   obtain ⟨x1, x2⟩ := Rd.boxed ((Frm.of_below (F := fun k => k = rd) HBel.out).trans f2 (New.refl _ _)) r2 hrd hbl (.int .i64 0) (.string ⟨#[]⟩) (.int .i64 0) (.int .i64 0)
   exact ⟨rfl, x2⟩)
  have e0 : w2.cell? ⟨w.heap.size, 0, none⟩ = some (.int .i64 0) := by rw [cell_of_block hbx]; rfl
  have e1 : w2.cell? ⟨w.heap.size, 1, none⟩ = some (.string ⟨#[]⟩) := by rw [cell_of_block hbx]; rfl
  have e2 : w2.cell? ⟨w.heap.size, 2, none⟩ = some (.int .i64 0) := by rw [cell_of_block hbx]; rfl
  have e3 : w2.cell? ⟨w.heap.size, 3, none⟩ = some (.int .i64 0) := by rw [cell_of_block hbx]; rfl
  have f0 := unfrozen_of_block hbx 0
  have f1 := unfrozen_of_block hbx 1
  have f4 := unfrozen_of_block hbx 2
  have f3 := unfrozen_of_block hbx 3
  clear r2 f2
  go_wp2_with fail
  exact tok_ret Tryz.results97 (box_four hbx _ _ _ _) rfl rfl rfl HX.out
 ·rw [if_neg c1]
  generalize hP : TokP (.ok (⟨1, (l.take q).map lowL, 0, 0⟩, q)) w rd b l = P
  have HP := Lib.hid hP
  clear hP
  have k1 : (q : Int) ≤ 32 := by omega
  go_enter Tryz.func97, Tryz.ntmps97
  go_wp2_with fail
  go_at_call 35
  refine HT.out.mono ?_
  rintro e w2 ⟨rfl, off', cap', r2, f2⟩
  have hlen : (l.take q).length = q := by rw [List.length_take]; have := HK.out; omega
  have is2 := (f2.isB HI.out (fun _ => HB.out)).take q
  have HTL := Lib.hid (tl_any ⟨b, off, none⟩ q cap ((l.take q).map fun n : Nat => (n : Int)) w2 (by rw [List.length_map, hlen]) (fun x hx => by
   obtain ⟨y, hy, rfl⟩ := List.mem_map.1 hx
   have := HA.out y hy
   omega) (fun i hi => by
   have hi2 : i < (l.take q).length := by omega
   have hg := List.getElem?_eq_getElem hi2
   rw [show (⟨b, off, none⟩ : Addr).add i = ⟨b, off + i, none⟩ by unfold Addr.add; split <;> simp_all, is2.c i _ hg, List.getD_eq_getElem?_getD, List.getElem?_map, hg]
   rfl) hk0 (by omega))
  have hbx2 : w2.heap[w.heap.size]? = some (.cells #[.int .i64 0, .string ⟨#[]⟩, .int .i64 0, .int .i64 0] 84 (0, 0)) := (f2.heap HZ.out (by omega)).trans HN.out
  have R2 := Lib.hid r2
  have F2 := Lib.hid f2
  have HX2 := Lib.hid hbx2
  clear r2 f2 is2 hbx2
  go_wp2_with fail
  go_at_call 160
  refine HTL.out.mono ?_
  rintro e w3 ⟨v, rfl, fr, b3⟩
  obtain ⟨s, hcv, hs⟩ := fresh_str fr
  have es := low_str HL.out hs
  subst es
  obtain ⟨g3, cap3, _, ev, _⟩ := fr
  generalize (Lib.toLowerA (Lib.bytesOf (List.map (fun n : Nat => (n : Int)) (List.take q l)))).length = n3 at ev
  subst ev
  have hbx : w3.heap[w.heap.size]? = some (.cells #[.int .i64 0, .string ⟨#[]⟩, .int .i64 0, .int .i64 0] 84 (0, 0)) := (b3.block _ (Array.getElem?_eq_some_iff.1 HX2.out).1).trans HX2.out
  have HX := Lib.hid (show P (.returned (.tuple #[Tkv 1 (strB ((l.take q).map lowL)) 0 0, .int .i64 0])) ((((w3.setCell ⟨w.heap.size, 0, none⟩ (.int .i64 1)).setCell ⟨w.heap.size, 1, none⟩ (.string (strB ((l.take q).map lowL)))).setCell ⟨w.heap.size, 2, none⟩ (.int .i64 0)).setCell ⟨w.heap.size, 3, none⟩ (.int .i64 0)) by
   rw [← HP.out]
   obtain ⟨x1, x2⟩ := Rd.boxed (((Frm.of_below (F := fun k => k = rd) HBel.out).trans F2.out (New.refl _ _)).step b3) (R2.out.below b3) hrd hbl (.int .i64 1) (.string (strB ((l.take q).map lowL))) (.int .i64 0) (.int .i64 0)
   exact ⟨rfl, off', cap', x1, x2⟩)
  have e0 : w3.cell? ⟨w.heap.size, 0, none⟩ = some (.int .i64 0) := by rw [cell_of_block hbx]; rfl
  have e1 : w3.cell? ⟨w.heap.size, 1, none⟩ = some (.string ⟨#[]⟩) := by rw [cell_of_block hbx]; rfl
  have e2 : w3.cell? ⟨w.heap.size, 2, none⟩ = some (.int .i64 0) := by rw [cell_of_block hbx]; rfl
  have e3 : w3.cell? ⟨w.heap.size, 3, none⟩ = some (.int .i64 0) := by rw [cell_of_block hbx]; rfl
  have f0 := unfrozen_of_block hbx 0
  have f1 := unfrozen_of_block hbx 1
  have f4 := unfrozen_of_block hbx 2
  have f3 := unfrozen_of_block hbx 3
  clear b3 hs
  generalize strB (List.map lowL (List.take q l)) = S at hcv HX
  go_wp2_with fail
  exact tok_ret Tryz.results97 (box_four hbx _ _ _ _) rfl rfl rfl HX.out
end Go.Proofs.YtofnkfjhmjecjaaGreatDoor

namespace Go.Proofs.YtofnkfjhmjecjaaGreatDoor
set_option maxRecDepth 100000
open Go.RowKit Go.Joins Go.ChangeShapes Go.WideShapes
set_option linter.unusedVariables false
set_option linter.unusedSimpArgs false
set_option maxHeartbeats 2000000 in
theorem frac_any {w : World} {rd b off cap : Nat} {l : List Nat} (h : Rd w rd b off cap l) :
  Calls Tryz.prog 161 #[.pointer (some ⟨rd, 0, none⟩)] w fun e w' => e = .returned (.bool (fracL l)) ∧ w = w' := by
 have c0 : w.cell? ⟨rd, 0, none⟩ = some (.slice (some ⟨b, off, none⟩) l.length cap) := by rw [cell_of_block h.hd]; rfl
 rcases l with _ | ⟨p, _ | ⟨d, r⟩⟩
 ·have c0 : w.cell? ⟨rd, 0, none⟩ = some (.slice (some ⟨b, off, none⟩) 0 cap) := c0
  clear h
  go_enter Tryz.func161, Tryz.ntmps161
  go_wp2_with fail
  go_ret
  exact ⟨rfl, rfl⟩
 ·have c0 : w.cell? ⟨rd, 0, none⟩ = some (.slice (some ⟨b, off, none⟩) 1 cap) := c0
  clear h
  go_enter Tryz.func161, Tryz.ntmps161
  go_wp2_with fail
  go_ret
  exact ⟨rfl, rfl⟩
 ·have d0 : w.cell? ⟨b, off, none⟩ = some (.int .u8 (p : Int)) := h.is.c 0 p rfl
  have d1 : w.cell? ⟨b, off + 1, none⟩ = some (.int .u8 (d : Int)) := h.is.c 1 d rfl
  have HD := Lib.hid (digit_any d w (h.is.lt d (by simp)))
  have e1 : ((p : Int) == (46 : Int)) = (p == 46) := eqi p 46
  obtain ⟨n, hn⟩ : ∃ n, (p :: d :: r).length = n := ⟨_, rfl⟩
  have h2 : (1 : Int) < (n : Int) := by rw [← hn]; simp; omega
  rw [hn] at c0
  show Calls _ _ _ _ fun e w' => e = .returned (.bool (p == 46 && dgL d)) ∧ w = w'
  clear h hn
  generalize dgL d = v at *
  cases h1 : (p == 46) <;> rw [h1] at e1 <;> clear h1 <;> cases v
  all_goals
   go_enter Tryz.func161, Tryz.ntmps161
   go_wp2_with (first | (go_at_call 98; refine HD.out.mono ?_; rintro e w' ⟨rfl, rfl⟩))
   go_ret
   exact ⟨rfl, rfl⟩
end Go.Proofs.YtofnkfjhmjecjaaGreatDoor

namespace Go.Proofs.YtofnkfjhmjecjaaGreatDoor
set_option maxRecDepth 100000
open Go.RowKit Go.Joins Go.ChangeShapes Go.WideShapes
set_option linter.unusedVariables false
set_option linter.unusedSimpArgs false
def piRen : Go.Shelf.Ren where
 f := fun x => match x with
  | 174 => 163
  | 247 => 189
  | 245 => 190
  | 287 => 203
  | 279 => 204
  | 280 => 205
  | 281 => 206
  | 282 => 207
  | 321 => 218
  | 322 => 219
  | 316 => 220
  | 171 => 222
  | 205 => 221
  | 243 => 238
  | 246 => 212
  | 283 => 225
  | 284 => 226
  | 285 => 227
  | 286 => 228
  | 129 => 241
  | 317 => 240
  | 318 => 242
  | 319 => 243
  | 320 => 244
  | 337 => 254
  | 338 => 255
  | n => n
 t := fun x => match x with
  | 9 => 9
  | 3 => 3
  | 2 => 2
  | 75 => 157
  | 85 => 173
  | 4 => 4
  | 167 => 204
  | 5 => 5
  | 53 => 179
  | 175 => 205
  | 46 => 207
  | 168 => 208
  | 37 => 78
  | 0 => 0
  | 210 => 221
  | 21 => 21
  | 127 => 181
  | 145 => 242
  | 143 => 240
  | 171 => 223
  | 173 => 226
  | 212 => 244
  | 51 => 216
  | 20 => 20
  | 213 => 245
  | 232 => 258
  | 233 => 259
  | 80 => 88
  | n => n
 g := fun x => match x with
  | 15 => 2
  | 16 => 3
  | 17 => 6
  | 18 => 7
  | 19 => 8
  | n => n
theorem piLays : Go.Proofs.LaysC.n174 Tryz.prog piRen :=
  { mixed := by kernel_rfl,
    f129 := Eq.trans Tryz.func241 (congrArg some rfl),
    f171 := Eq.trans Tryz.func222 (congrArg some rfl),
    f174 := Eq.trans Tryz.func163 (congrArg some rfl),
    f205 := Eq.trans Tryz.func221 (congrArg some rfl),
    f243 := Eq.trans Tryz.func238 (congrArg some rfl),
    f245 := Eq.trans Tryz.func190 (congrArg some rfl),
    f246 := Eq.trans Tryz.func212 (congrArg some rfl),
    f247 := Eq.trans Tryz.func189 (congrArg some rfl),
    f279 := Eq.trans Tryz.func204 (congrArg some rfl),
    f280 := Eq.trans Tryz.func205 (congrArg some rfl),
    f281 := Eq.trans Tryz.func206 (congrArg some rfl),
    f282 := Eq.trans Tryz.func207 (congrArg some rfl),
    f283 := Eq.trans Tryz.func225 (congrArg some rfl),
    f284 := Eq.trans Tryz.func226 (congrArg some rfl),
    f285 := Eq.trans Tryz.func227 (congrArg some rfl),
    f286 := Eq.trans Tryz.func228 (congrArg some rfl),
    f287 := Eq.trans Tryz.func203 (congrArg some rfl),
    f316 := Eq.trans Tryz.func220 (congrArg some rfl),
    f317 := Eq.trans Tryz.func240 (congrArg some rfl),
    f318 := Eq.trans Tryz.func242 (congrArg some rfl),
    f319 := Eq.trans Tryz.func243 (congrArg some rfl),
    f320 := Eq.trans Tryz.func244 (congrArg some rfl),
    f321 := Eq.trans Tryz.func218 (congrArg some rfl),
    f322 := Eq.trans Tryz.func219 (congrArg some rfl),
    f337 := Eq.trans Tryz.func254 (congrArg some rfl),
    f338 := Eq.trans Tryz.func255 (congrArg some rfl),
    t0 := Tryz.underlying0,
    a0 := Tryz.isAgg0,
    z0 := Tryz.sizeOf0,
    v0 := Tryz.zeroValue0,
    t2 := Tryz.underlying2,
    a2 := Tryz.isAgg2,
    z2 := Tryz.sizeOf2,
    v2 := Tryz.zeroValue2,
    t3 := Tryz.underlying3,
    a3 := Tryz.isAgg3,
    z3 := Tryz.sizeOf3,
    v3 := Tryz.zeroValue3,
    t4 := Tryz.underlying4,
    a4 := Tryz.isAgg4,
    z4 := Tryz.sizeOf4,
    v4 := Tryz.zeroValue4,
    t5 := Tryz.underlying5,
    a5 := Tryz.isAgg5,
    z5 := Tryz.sizeOf5,
    v5 := Tryz.zeroValue5,
    t9 := Tryz.underlying9,
    a9 := Tryz.isAgg9,
    z9 := Tryz.sizeOf9,
    v9 := Tryz.zeroValue9,
    t20 := Tryz.underlying20,
    a20 := Tryz.isAgg20,
    z20 := Tryz.sizeOf20,
    v20 := Tryz.zeroValue20,
    t21 := Tryz.underlying21,
    a21 := Tryz.isAgg21,
    z21 := Tryz.sizeOf21,
    v21 := Tryz.zeroValue21,
    t37 := Tryz.underlying78,
    a37 := Tryz.isAgg78,
    z37 := Tryz.sizeOf78,
    v37 := Tryz.zeroValue78,
    t46 := Tryz.underlying207,
    a46 := Tryz.isAgg207,
    z46 := Tryz.sizeOf207,
    v46 := Tryz.zeroValue207,
    t51 := Tryz.underlying216,
    a51 := Tryz.isAgg216,
    z51 := Tryz.sizeOf216,
    v51 := Tryz.zeroValue216,
    t53 := Tryz.underlying179,
    a53 := Tryz.isAgg179,
    z53 := Tryz.sizeOf179,
    v53 := Tryz.zeroValue179,
    t75 := Tryz.underlying157,
    a75 := Tryz.isAgg157,
    z75 := Tryz.sizeOf157,
    v75 := Tryz.zeroValue157,
    t85 := Tryz.underlying173,
    a85 := Tryz.isAgg173,
    z85 := Tryz.sizeOf173,
    v85 := Tryz.zeroValue173,
    t127 := Tryz.underlying181,
    a127 := Tryz.isAgg181,
    z127 := Tryz.sizeOf181,
    v127 := Tryz.zeroValue181,
    t143 := Tryz.underlying240,
    a143 := Tryz.isAgg240,
    z143 := Tryz.sizeOf240,
    v143 := Tryz.zeroValue240,
    t145 := Tryz.underlying242,
    a145 := Tryz.isAgg242,
    z145 := Tryz.sizeOf242,
    v145 := Tryz.zeroValue242,
    t167 := Tryz.underlying204,
    a167 := Tryz.isAgg204,
    z167 := Tryz.sizeOf204,
    v167 := Tryz.zeroValue204,
    t168 := Tryz.underlying208,
    a168 := Tryz.isAgg208,
    z168 := Tryz.sizeOf208,
    v168 := Tryz.zeroValue208,
    t171 := Tryz.underlying223,
    a171 := Tryz.isAgg223,
    z171 := Tryz.sizeOf223,
    v171 := Tryz.zeroValue223,
    t173 := Tryz.underlying226,
    a173 := Tryz.isAgg226,
    z173 := Tryz.sizeOf226,
    v173 := Tryz.zeroValue226,
    t175 := Tryz.underlying205,
    a175 := Tryz.isAgg205,
    z175 := Tryz.sizeOf205,
    v175 := Tryz.zeroValue205,
    t210 := Tryz.underlying221,
    a210 := Tryz.isAgg221,
    z210 := Tryz.sizeOf221,
    v210 := Tryz.zeroValue221,
    t212 := Tryz.underlying244,
    a212 := Tryz.isAgg244,
    z212 := Tryz.sizeOf244,
    v212 := Tryz.zeroValue244,
    t213 := Tryz.underlying245,
    a213 := Tryz.isAgg245,
    z213 := Tryz.sizeOf245,
    t232 := Tryz.underlying258,
    a232 := Tryz.isAgg258,
    z232 := Tryz.sizeOf258,
    v232 := Tryz.zeroValue258,
    t233 := Tryz.underlying259,
    a233 := Tryz.isAgg259,
    z233 := Tryz.sizeOf259,
    v233 := Tryz.zeroValue259,
    g15 := by kernel_rfl,
    g16 := by kernel_rfl,
    g17 := by kernel_rfl,
    g18 := by kernel_rfl,
    g19 := by kernel_rfl,
    t80 := Tryz.underlying88,
    a80 := Tryz.isAgg88,
    z80 := Tryz.sizeOf88,
    v80 := Tryz.zeroValue88,
    i0 := by kernel_rfl,
    i2 := by kernel_rfl,
    i3 := by kernel_rfl,
    i4 := by kernel_rfl,
    i5 := by kernel_rfl,
    i9 := by kernel_rfl,
    i20 := by kernel_rfl,
    i21 := by kernel_rfl,
    i37 := by kernel_rfl,
    i46 := by kernel_rfl,
    i51 := by kernel_rfl,
    i53 := by kernel_rfl,
    i75 := by kernel_rfl,
    i80 := by kernel_rfl,
    i85 := by kernel_rfl,
    i127 := by kernel_rfl,
    i143 := by kernel_rfl,
    i145 := by kernel_rfl,
    i167 := by kernel_rfl,
    i168 := by kernel_rfl,
    i171 := by kernel_rfl,
    i173 := by kernel_rfl,
    i175 := by kernel_rfl,
    i210 := by kernel_rfl,
    i212 := by kernel_rfl,
    i232 := by kernel_rfl,
    i233 := by kernel_rfl,
    m15 := by kernel_rfl,
    m16 := by kernel_rfl,
    m17 := by kernel_rfl,
    m18 := by kernel_rfl,
    m19 := by kernel_rfl,
    c0 := by kernel_rfl,
    c2 := by kernel_rfl,
    c3 := by kernel_rfl,
    c4 := by kernel_rfl,
    c5 := by kernel_rfl,
    c9 := by kernel_rfl,
    c20 := by kernel_rfl,
    c21 := by kernel_rfl,
    c37 := by kernel_rfl,
    c46 := by kernel_rfl,
    c51 := by kernel_rfl,
    c53 := by kernel_rfl,
    c75 := by kernel_rfl,
    c80 := by kernel_rfl,
    c85 := by kernel_rfl,
    c127 := by kernel_rfl,
    c143 := by kernel_rfl,
    c145 := by kernel_rfl,
    c167 := by kernel_rfl,
    c168 := by kernel_rfl,
    c171 := by kernel_rfl,
    c173 := by kernel_rfl,
    c175 := by kernel_rfl,
    c210 := by kernel_rfl,
    c212 := by kernel_rfl,
    c213 := by kernel_rfl,
    c232 := by kernel_rfl,
    c233 := by kernel_rfl }
end Go.Proofs.YtofnkfjhmjecjaaGreatDoor

namespace Go.Proofs.YtofnkfjhmjecjaaGreatDoor
set_option maxRecDepth 100000
open Go.RowKit Go.Joins Go.ChangeShapes Go.WideShapes
set_option linter.unusedVariables false
set_option linter.unusedSimpArgs false
theorem lexGo_succ (n : Nat) (l : List Nat) : lexGo (n + 1) l = (match l.drop (runL blL l) with
  | [] => .ok []
  | c :: r => match tokL (c :: r) with
   | .error er => .error er
   | .ok (t, k) => match lexGo n ((c :: r).drop k) with
    | .error er => .error er
    | .ok ts => .ok (t :: ts)) := rfl
theorem lexGo_fuel : ∀ (n m : Nat) (l : List Nat), l.length < n → l.length < m → lexGo n l = lexGo m l
 | 0, _, l, h, _ => by omega
 | _ + 1, 0, l, _, h => by omega
 | n + 1, m + 1, l, hn, hm => by
  rw [lexGo_succ, lexGo_succ]
  have hl : (l.drop (runL blL l)).length ≤ l.length := by rw [List.length_drop]; omega
  generalize l.drop (runL blL l) = d at hl ⊢
  cases d with
  | nil => rfl
  | cons c r =>
   simp only
   cases ht : tokL (c :: r) with
   | error er => rfl
   | ok x =>
    obtain ⟨t, k⟩ := x
    obtain ⟨_, h2, h3⟩ := tokL_app (e := 32) rfl [] (c :: r) t k ht
    have hd : ((c :: r).drop k).length < (c :: r).length := by rw [List.length_drop]; omega
    simp only
    rw [lexGo_fuel n m ((c :: r).drop k) (by omega) (by omega)]
theorem lexL_eq (n : Nat) (l : List Nat) (h : l.length < n) : lexGo n l = lexL l := lexGo_fuel n (l.length + 1) l h (by omega)
end Go.Proofs.YtofnkfjhmjecjaaGreatDoor

namespace Go.Proofs.YtofnkfjhmjecjaaGreatDoor
set_option maxRecDepth 100000
open Go.RowKit Go.Joins Go.ChangeShapes Go.WideShapes
set_option linter.unusedVariables false
set_option linter.unusedSimpArgs false
def digL (n : Nat) : List Nat := if n ≤ 9 then [48 + n] else digL (n / 10) ++ [48 + n % 10]
termination_by n
decreasing_by omega
theorem dg_iff (x : Nat) : dgL x = true ↔ 48 ≤ x ∧ x ≤ 57 := by
 unfold dgL
 simp only [Bool.and_eq_true, decide_eq_true_eq]
theorem decL_snoc (l : List Nat) (x : Nat) : decL (l ++ [x]) = decL l * 10 + (x - 48) := by
 unfold decL
 rw [List.foldl_append]
 rfl
theorem decF (l : List Nat) : ∀ acc, l.foldl (fun n c => n * 10 + (c - 48)) acc = acc * 10 ^ l.length + decL l := by
 induction l with
 | nil => intro acc; show acc = acc * 1 + 0; omega
 | cons c r ih =>
  intro acc
  show r.foldl _ (acc * 10 + (c - 48)) = acc * 10 ^ (r.length + 1) + r.foldl _ (0 * 10 + (c - 48))
  rw [ih, ih, Nat.pow_succ, Nat.add_mul, Nat.zero_mul, Nat.mul_assoc, Nat.mul_comm 10, Nat.zero_add, Nat.add_assoc]
theorem decL_cons (c : Nat) (r : List Nat) : decL (c :: r) = (c - 48) * 10 ^ r.length + decL r := by
 show r.foldl _ (0 * 10 + (c - 48)) = _
 rw [decF, Nat.zero_mul, Nat.zero_add]
theorem decL_lt : ∀ l : List Nat, (∀ x ∈ l, dgL x = true) → decL l < 10 ^ l.length
 | [], _ => by show 0 < 1; omega
 | c :: r, h => by
  have h1 := decL_lt r (fun x hx => h x (List.mem_cons_of_mem _ hx))
  have h2 := (dg_iff c).1 (h c (List.mem_cons_self ..))
  rw [decL_cons, List.length_cons, Nat.pow_succ]
  have h3 : (c - 48) * 10 ^ r.length ≤ 9 * 10 ^ r.length := Nat.mul_le_mul_right _ (by omega)
  omega
theorem runL_all1 {f : Nat → Bool} : ∀ l : List Nat, (∀ x ∈ l, f x = true) → runL f l = l.length
 | [], _ => rfl
 | c :: r, h => by
  rw [runL_cons, if_pos (h c (List.mem_cons_self ..)), runL_all1 r (fun x hx => h x (List.mem_cons_of_mem _ hx))]
  rfl
theorem runL_in {f : Nat → Bool} : ∀ (l : List Nat) (x : Nat), x ∈ l.take (runL f l) → f x = true
 | [], x, h => by simp at h
 | c :: r, x, h => by
  rw [runL_cons] at h
  cases hc : f c with
  | false => rw [hc] at h; simp at h
  | true =>
   rw [hc, if_pos rfl, List.take_succ_cons] at h
   rcases List.mem_cons.1 h with e | e
   ·rw [e]; exact hc
   ·exact runL_in r x e
/-! tokens that are written -/
def escL : List Nat → List Nat
 | [] => []
 | c :: r => if c = 39 then 39 :: 39 :: escL r else c :: escL r
def padL (n sc : Nat) : List Nat := List.replicate (sc + 1 - (digL n).length) 48 ++ digL n
def wordT (t : Tk) : List Nat :=
 if t.kind = 2 then digL t.num
 else if t.kind = 3 then (padL t.num t.scale).take ((padL t.num t.scale).length - t.scale) ++ 46 :: (padL t.num t.scale).drop ((padL t.num t.scale).length - t.scale)
 else if t.kind = 4 then 39 :: (escL t.text ++ [39])
 else t.text
end Go.Proofs.YtofnkfjhmjecjaaGreatDoor

namespace Go.Proofs.YtofnkfjhmjecjaaGreatDoor
set_option maxRecDepth 100000
open Go.RowKit Go.Joins Go.ChangeShapes Go.WideShapes
set_option linter.unusedVariables false
set_option linter.unusedSimpArgs false
theorem decF_ge (l : List Nat) (acc : Nat) : acc ≤ l.foldl (fun n c => n * 10 + (c - 48)) acc := by
 rw [decF]
 have : acc * 1 ≤ acc * 10 ^ l.length := Nat.mul_le_mul_left _ (Nat.one_le_pow _ _ (by omega))
 omega
theorem parse_u : ∀ (l : List Nat) (acc : Nat), (∀ x ∈ l, dgL x = true) → acc ≤ 18446744073709551615 →
  Lib.parseUintM 18446744073709551615 acc (l.map UInt8.ofNat) = if 18446744073709551615 < l.foldl (fun n c => n * 10 + (c - 48)) acc then .range else .ok (l.foldl (fun n c => n * 10 + (c - 48)) acc)
 | [], acc, _, h => by
  show Lib.NumEnd.ok acc = if 18446744073709551615 < acc then _ else Lib.NumEnd.ok acc
  rw [if_neg (by omega)]
 | c :: r, acc, hd, h => by
  have hc := (dg_iff c).1 (hd c (List.mem_cons_self ..))
  have hn : (UInt8.ofNat c).toNat = c := by rw [UInt8.toNat_ofNat', Nat.mod_eq_of_lt (by omega)]
  have hge := decF_ge r (acc * 10 + (c - 48))
  show Lib.parseUintM _ acc (UInt8.ofNat c :: r.map UInt8.ofNat) = if 18446744073709551615 < r.foldl (fun n c => n * 10 + (c - 48)) (acc * 10 + (c - 48)) then _ else .ok (r.foldl (fun n c => n * 10 + (c - 48)) (acc * 10 + (c - 48)))
  rw [Lib.parseUintM, hn, if_pos hc]
  by_cases c1 : 1844674407370955162 ≤ acc
  ·rw [if_pos c1, if_pos (by omega)]
  ·rw [if_neg c1]
   by_cases c2 : 18446744073709551615 < acc * 10 + (c - 48)
   ·rw [if_pos c2, if_pos (by omega)]
   ·rw [if_neg c2]
    exact parse_u r _ (fun x hx => hd x (List.mem_cons_of_mem _ hx)) (by omega)
theorem parse_dec (l : List Nat) (hd : ∀ x ∈ l, dgL x = true) (h0 : 0 < l.length) : Lib.parseIntB 64 (l.map UInt8.ofNat) = if 9223372036854775807 < decL l then .range else .ok (decL l : Int) := by
 cases l with
 | nil => simp at h0
 | cons c r =>
  have hc := (dg_iff c).1 (hd c (List.mem_cons_self ..))
  have hn : (UInt8.ofNat c).toNat = c := by rw [UInt8.toNat_ofNat', Nat.mod_eq_of_lt (by omega)]
  have hu := parse_u (c :: r) 0 hd (by omega)
  have hu2 : Lib.parseUintM 18446744073709551615 0 (UInt8.ofNat c :: r.map UInt8.ofNat) = if 18446744073709551615 < decL (c :: r) then .range else .ok (decL (c :: r)) := hu
  have e : Lib.parseUintB 64 (UInt8.ofNat c :: r.map UInt8.ofNat) = if 18446744073709551615 < decL (c :: r) then .range else .ok (decL (c :: r)) := by
   unfold Lib.parseUintB
   rw [if_neg (by simp)]
   exact hu2
  show Lib.parseIntB 64 (UInt8.ofNat c :: r.map UInt8.ofNat) = _
  unfold Lib.parseIntB
  simp only [hn]
  rw [if_neg (by omega), e]
  have n45 : ¬ c = 45 := by omega
  by_cases c1 : 18446744073709551615 < decL (c :: r)
  ·rw [if_pos c1, if_pos (by omega)]
  ·rw [if_neg c1]
   simp only [n45, if_false, not_false_iff, true_and, false_and]
   by_cases c2 : 9223372036854775807 < decL (c :: r)
   ·rw [if_pos c2, if_pos (by omega)]
   ·rw [if_neg c2, if_neg (by omega)]
theorem nq_iff (x : Nat) : nqL x = true ↔ x ≠ 39 := by
 unfold nqL
 simp
theorem textL_q {c : Nat} (r : List Nat) (h : c ≠ 39) : textL (c :: r) = (textL r).map (fun x => (c :: x.1, x.2 + 1)) := by
 rw [textL.eq_def]
 simp only [h, if_false]
theorem textL_run : ∀ l : List Nat, textL l = (textL (l.drop (runL nqL l))).map (fun x => (l.take (runL nqL l) ++ x.1, runL nqL l + x.2))
 | [] => rfl
 | c :: r => by
  rw [runL_cons]
  by_cases h : nqL c = true
  ·rw [if_pos h, List.drop_succ_cons, List.take_succ_cons, textL_q r ((nq_iff c).1 h), textL_run r, Option.map_map]
   congr 1
   funext x
   show (c :: (r.take (runL nqL r) ++ x.1), runL nqL r + x.2 + 1) = (c :: r.take (runL nqL r) ++ x.1, runL nqL r + 1 + x.2)
   rw [Nat.add_right_comm]
   rfl
  ·rw [if_neg h, List.drop_zero, List.take_zero]
   cases textL (c :: r) with
   | none => rfl
   | some x => simp
theorem drop_nq (l : List Nat) : l.drop (runL nqL l) = [] ∨ ∃ s, l.drop (runL nqL l) = 39 :: s := by
 induction l with
 | nil => exact .inl rfl
 | cons c r ih =>
  rw [runL_cons]
  by_cases h : nqL c = true
  ·rw [if_pos h, List.drop_succ_cons]
   exact ih
  ·rw [if_neg h, List.drop_zero]
   have : c = 39 := by
    cases Nat.decEq c 39 with
    | isTrue e => exact e
    | isFalse e => exact absurd ((nq_iff c).2 e) h
   exact .inr ⟨r, by rw [this]⟩
theorem textL_end {s : List Nat} (h : ∀ d t, s = d :: t → d ≠ 39) : textL (39 :: s) = some ([], 1) := by
 rw [textL.eq_def]
 cases s with
 | nil => rfl
 | cons d t =>
  have := h d t rfl
  simp only [this, if_true, if_false]
theorem textL_two (s : List Nat) : textL (39 :: 39 :: s) = (textL s).map (fun x => (39 :: x.1, x.2 + 2)) := by
 rw [textL.eq_def]
 simp only [if_true]
theorem runL_at {f : Nat → Bool} (h0 : f 0 = false) : ∀ (l : List Nat) (k : Nat), k ≤ runL f l → (f (l.getD k 0) = true → k < runL f l) ∧ (f (l.getD k 0) = false → k = runL f l)
 | [], k, h => by
  have : k = 0 := by have : runL f [] = 0 := rfl; omega
  subst this
  refine ⟨fun h => ?_, fun _ => rfl⟩
  rw [show ([] : List Nat).getD 0 0 = 0 from rfl, h0] at h
  cases h
 | c :: r, k, h => by
  rw [runL_cons] at h ⊢
  by_cases hc : f c = true
  ·rw [if_pos hc] at h ⊢
   cases k with
   | zero =>
    refine ⟨fun _ => by omega, fun h => ?_⟩
    rw [show (c :: r).getD 0 0 = c from rfl, hc] at h
    cases h
   | succ k =>
    rw [show (c :: r).getD (k + 1) 0 = r.getD k 0 from rfl]
    obtain ⟨h1, h2⟩ := runL_at h0 r k (by omega)
    exact ⟨fun h => by have := h1 h; omega, fun h => by rw [h2 h]⟩
  ·rw [if_neg hc] at h ⊢
   have : k = 0 := by omega
   subst this
   refine ⟨fun h => ?_, fun _ => rfl⟩
   exact absurd h hc
end Go.Proofs.YtofnkfjhmjecjaaGreatDoor

namespace Go.Proofs.YtofnkfjhmjecjaaGreatDoor
set_option maxRecDepth 100000
open Go.RowKit Go.Joins Go.ChangeShapes Go.WideShapes
set_option linter.unusedVariables false
set_option linter.unusedSimpArgs false
def preT (ts : List Tk) : Except Nat (List Tk) → Except Nat (List Tk)
 | .error e => .error e
 | .ok us => .ok (ts ++ us)
theorem preT_nil (x : Except Nat (List Tk)) : preT [] x = x := by cases x <;> rfl
theorem lexL_nil : lexL [] = .ok [] := rfl
theorem drop_run (c : Nat) (r : List Nat) (h : blL c = true) : (c :: r).drop (runL blL (c :: r)) = r.drop (runL blL r) := by
 rw [runL_cons, if_pos h, List.drop_succ_cons]
theorem lexL_blank (c : Nat) (r : List Nat) (h : blL c = true) : lexL (c :: r) = lexL r := by
 rw [← lexL_eq ((c :: r).length + 1) (c :: r) (by omega), ← lexL_eq ((c :: r).length + 1) r (by simp; omega), lexGo_succ, lexGo_succ, drop_run c r h]
theorem lexL_run : ∀ l : List Nat, lexL l = lexL (l.drop (runL blL l))
 | [] => rfl
 | c :: r => by
  by_cases h : blL c = true
  ·rw [lexL_blank c r h, drop_run c r h]
   exact lexL_run r
  ·rw [runL_cons, if_neg h, List.drop_zero]
theorem run_head : ∀ l : List Nat, l.drop (runL blL l) = [] ∨ ∃ c r, l.drop (runL blL l) = c :: r ∧ blL c = false
 | [] => .inl rfl
 | c :: r => by
  by_cases h : blL c = true
  ·rw [drop_run c r h]
   exact run_head r
  ·rw [runL_cons, if_neg h, List.drop_zero]
   exact .inr ⟨c, r, rfl, by simpa using h⟩
theorem lexL_tok (c : Nat) (r : List Nat) (h : blL c = false) : lexL (c :: r) = (match tokL (c :: r) with
  | .error e => .error e
  | .ok (t, k) => preT [t] (lexL ((c :: r).drop k))) := by
 have h0 : runL blL (c :: r) = 0 := by rw [runL_cons, h]; rfl
 rw [← lexL_eq ((c :: r).length + 1) (c :: r) (by omega), lexGo_succ, h0, List.drop_zero]
 simp only
 cases ht : tokL (c :: r) with
 | error e => rfl
 | ok x =>
  obtain ⟨t, k⟩ := x
  obtain ⟨_, h2, h3⟩ := tokL_app (e := 32) rfl [] (c :: r) t k ht
  simp only
  rw [lexL_eq (c :: r).length _ (by rw [List.length_drop]; omega)]
  cases lexL ((c :: r).drop k) <;> rfl
theorem lexL_err (c : Nat) (r : List Nat) (h : blL c = false) (e : Nat) (ht : tokL (c :: r) = .error e) : lexL (c :: r) = .error e := by
 rw [lexL_tok c r h, ht]
theorem lexL_ok (c : Nat) (r : List Nat) (h : blL c = false) (t : Tk) (k : Nat) (ht : tokL (c :: r) = .ok (t, k)) : lexL (c :: r) = preT [t] (lexL ((c :: r).drop k)) := by
 rw [lexL_tok c r h, ht]
theorem preT_preT (ts us : List Tk) (x : Except Nat (List Tk)) : preT ts (preT us x) = preT (ts ++ us) x := by
 cases x with
 | error e => rfl
 | ok y => simp [preT, List.append_assoc]
def toksE (l : List Nat) : Except Nat (List Tk) := if l.length > 4000 then .error 1 else lexL l
def TkR (t : Tk) : Prop := t.kind ≤ 5 ∧ t.num ≤ 9223372036854775807 ∧ t.scale ≤ 14 ∧ t.text.length ≤ 200 ∧ ∀ x ∈ t.text, x < 256
theorem textL_bytes : ∀ (n : Nat) (l : List Nat) (x : List Nat × Nat), l.length ≤ n → textL l = some x → ∀ y ∈ x.1, y ∈ l ∨ y = 39
 | 0, l, x, hn, h => by
  have : l = [] := List.length_eq_zero_iff.1 (by omega)
  subst this
  simp [textL] at h
 | n + 1, [], x, hn, h => by simp [textL] at h
 | n + 1, c :: r, x, hn, h => by
  have hl : r.length ≤ n := by simp at hn; omega
  by_cases hc : c = 39
  ·subst hc
   cases r with
   | nil =>
    rw [textL_end (fun d t e => by cases e)] at h
    injection h with h
    subst h
    intro y hy
    simp at hy
   | cons d r' =>
    by_cases hd : d = 39
    ·subst hd
     rw [textL_two] at h
     cases hx : textL r' with
     | none => rw [hx] at h; simp at h
     | some z =>
      rw [hx] at h
      simp only [Option.map_some, Option.some.injEq] at h
      subst h
      intro y hy
      rcases List.mem_cons.1 hy with e | e
      ·exact .inr e
      ·rcases textL_bytes n r' z (by simp at hl; omega) hx y e with g | g
       ·exact .inl (List.mem_cons_of_mem _ (List.mem_cons_of_mem _ g))
       ·exact .inr g
    ·rw [textL_end (fun d' t e => by injection e with e1 e2; rw [← e1]; exact hd)] at h
     injection h with h
     subst h
     intro y hy
     simp at hy
  ·rw [textL_q r hc] at h
   cases hx : textL r with
   | none => rw [hx] at h; simp at h
   | some z =>
    rw [hx] at h
    simp only [Option.map_some, Option.some.injEq] at h
    subst h
    intro y hy
    rcases List.mem_cons.1 hy with e | e
    ·exact .inl (by rw [e]; exact List.mem_cons_self ..)
    ·rcases textL_bytes n r z hl hx y e with g | g
     ·exact .inl (List.mem_cons_of_mem _ g)
     ·exact .inr g
theorem low_lt {x : Nat} (h : x < 256) : lowL x < 256 := by
 unfold lowL cpL
 split
 ·next q =>
  simp only [Bool.and_eq_true, decide_eq_true_eq] at q
  omega
 ·exact h
theorem signL_le2 (l : List Nat) : signL l ≤ 2 := by
 unfold signL
 cases l with
 | nil => simp
 | cons c r =>
  simp only
  split
  ·split
   ·simp
   ·split <;> simp
  ·split
   ·simp
   ·split <;> simp
theorem tokL_right (l : List Nat) (hl : ∀ x ∈ l, x < 256) (t : Tk) (k : Nat) (h : tokL l = .ok (t, k)) : TkR t := by
 cases l with
 | nil => simp [tokL] at h
 | cons c r =>
  rw [tokL_cons] at h
  rw [tokC_eq] at h
  split at h
  ·next q1 =>
   split at h
   ·cases h
   ·next q2 =>
    injection h with h
    injection h with h1 h2
    subst h1
    refine ⟨by simp, by simp, by simp, ?_, fun x hx => ?_⟩
    ·simp only [List.length_map, List.length_take]
     omega
    ·obtain ⟨y, hy, rfl⟩ := List.mem_map.1 hx
     exact low_lt (hl y (List.mem_of_mem_take hy))
  ·next q1 =>
   split at h
   ·next q2 =>
    have hg := runL_in (f := dgL) (c :: r)
    generalize fracL ((c :: r).drop (runL dgL (c :: r))) = cnd at h
    cases cnd with
    | true =>
     rw [if_pos rfl] at h
     split at h
     ·cases h
     ·next q4 =>
      injection h with h
      injection h with h1 h2
      subst h1
      have hgl := runL_le dgL (c :: r)
      have hfl := runL_le dgL ((c :: r).drop (runL dgL (c :: r) + 1))
      have hf := runL_in (f := dgL) ((c :: r).drop (runL dgL (c :: r) + 1))
      have hg0 : 0 < runL dgL (c :: r) := by rw [runL_cons, if_pos q2]; omega
      have hlt := decL_lt ((c :: r).take (runL dgL (c :: r)) ++ ((c :: r).drop (runL dgL (c :: r) + 1)).take (runL dgL ((c :: r).drop (runL dgL (c :: r) + 1)))) (fun x hx => by
       rcases List.mem_append.1 hx with g | g
       ·exact hg x g
       ·exact hf x g)
      have hle : ((c :: r).take (runL dgL (c :: r)) ++ ((c :: r).drop (runL dgL (c :: r) + 1)).take (runL dgL ((c :: r).drop (runL dgL (c :: r) + 1)))).length ≤ 15 := by
       rw [List.length_append, List.length_take, List.length_take]
       omega
      have h15 := Nat.lt_of_lt_of_le hlt (Nat.pow_le_pow_right (by omega : 0 < 10) hle)
      refine ⟨by simp, ?_, ?_, by simp, fun x hx => by simp at hx⟩
      ·show decL _ ≤ _
       generalize decL ((c :: r).take (runL dgL (c :: r)) ++ ((c :: r).drop (runL dgL (c :: r) + 1)).take (runL dgL ((c :: r).drop (runL dgL (c :: r) + 1)))) = n at h15
       omega
      ·show runL dgL ((c :: r).drop (runL dgL (c :: r) + 1)) ≤ 14
       omega
    | false =>
     rw [if_neg (by decide)] at h
     split at h
     ·cases h
     ·next q4 =>
      injection h with h
      injection h with h1 h2
      subst h1
      refine ⟨by simp, ?_, by simp, by simp, fun x hx => by simp at hx⟩
      show decL _ ≤ _
      omega
   ·next q2 =>
    split at h
    ·next q3 =>
     split at h
     ·cases h
     ·next x hx =>
      split at h
      ·cases h
      ·next q4 =>
       injection h with h
       injection h with h1 h2
       subst h1
       refine ⟨by simp, by simp, by simp, by simpa using q4, fun y hy => ?_⟩
       rcases textL_bytes _ r x (Nat.le_refl _) hx y hy with g | g
       ·exact hl y (List.mem_cons_of_mem _ g)
       ·omega
    ·next q3 =>
     split at h
     ·cases h
     ·next q4 =>
      injection h with h
      injection h with h1 h2
      subst h1
      refine ⟨by simp, by simp, by simp, ?_, fun x hx => hl x (List.mem_of_mem_take hx)⟩
      have := signL_le2 (c :: r)
      simp only [List.length_take]
      omega
end Go.Proofs.YtofnkfjhmjecjaaGreatDoor

namespace Go.Proofs.YtofnkfjhmjecjaaGreatDoor
set_option maxRecDepth 100000
open Go.RowKit Go.Joins Go.ChangeShapes Go.WideShapes
set_option linter.unusedVariables false
set_option linter.unusedSimpArgs false
def tkcells : List Tk → List Value
 | [] => []
 | t :: r => [.int .i64 (t.kind : Int), .string (strB t.text), .int .i64 (t.num : Int), .int .i64 (t.scale : Int)] ++ tkcells r
theorem tkcells_length (l : List Tk) : (tkcells l).length = l.length * 4 := by
 induction l with
 | nil => rfl
 | cons v r ih => simp [tkcells, ih]; omega
theorem tkcells_app (l r : List Tk) : tkcells (l ++ r) = tkcells l ++ tkcells r := by
 induction l with
 | nil => rfl
 | cons v l ih => simp only [List.cons_append, tkcells, ih, List.append_assoc]
theorem tkcells_one : ∀ (l : List Tk), ∀ u ∈ tkcells l, u.oneCell' = true
 | [], u, hu => by cases hu
 | p :: l, u, hu => by
  unfold tkcells at hu
  rcases List.mem_append.1 hu with h | h
  ·simp only [List.mem_cons, List.not_mem_nil, or_false] at h
   rcases h with rfl | rfl | rfl | rfl <;> rfl
  ·exact tkcells_one l u h
def OwT (w : World) (B : Nat) (v : Value) (l : List Tk) : Prop := w.ownsRow B 84 4 v l.length (tkcells l)
theorem OwT.cases {w : World} {B : Nat} {v : Value} {l : List Tk} (h : OwT w B v l) : (v = .slice none 0 0 ∧ l = []) ∨
  ∃ (g cap : Nat) (cur : List Value), v = .slice (some ⟨g, 0, none⟩) l.length cap ∧ B ≤ g ∧ w.heap[g]? = some (.cells cur.toArray 84 (0, 0)) ∧ l.length ≤ cap ∧ cap ≤ maxLen ∧ cur.length = cap * 4 ∧ cur.take (l.length * 4) = tkcells l := by
 rcases h.2 with ⟨rfl, e⟩ | ⟨g, cap, cur, rfl, hb, hg, hn, hc, hs, ht⟩
 ·exact .inl ⟨rfl, List.eq_nil_of_length_eq_zero e⟩
 ·exact .inr ⟨g, cap, cur.toList, rfl, hb, by simpa using hg, hn, hc, by simpa using hs, ht⟩
theorem OwT.nil (w : World) (B : Nat) : OwT w B (.slice none 0 0) [] := World.ownsRow_nil w B _ 4
theorem OwT.le {w : World} {B B' : Nat} {v : Value} {l : List Tk} (h : OwT w B v l) (hb : B' ≤ B) : OwT w B' v l := ownsRow_le h hb
theorem Frm.owT {F : Bl} {w w1 : World} (h : Frm F w w1) {B : Nat} {v : Value} {l : List Tk} (ho : OwT w B v l) (hf : ∀ k, v.ownBlock = some k → ¬ F k) : OwT w1 B v l := h.ownsRow ho hf
theorem OwT.below {w w' : World} {B : Nat} {v : Value} {l : List Tk} (h : OwT w B v l) (hb : Below w.heap.size w w') : OwT w' B v l := (h : w.ownsRow B _ 4 v l.length (tkcells l)).kept (row := none) ⟨hb.os, hb.tape, hb.output, hb.size, fun i hi _ => hb.block i hi⟩ (by cases v.ownBlock <;> simp)
theorem OwT.form {w : World} {B : Nat} {v : Value} {l : List Tk} (h : OwT w B v l) : ∃ a cap, v = .slice a l.length cap ∧ (a = none ∧ l = [] ∧ cap = 0 ∨ ∃ g, a = some ⟨g, 0, none⟩ ∧ B ≤ g ∧ g < w.heap.size ∧ (∀ o, w.frozen? ⟨g, o, none⟩ = false) ∧ ∀ j u, (tkcells l)[j]? = some u → w.cell? ⟨g, j, none⟩ = some u) := by
 rcases h.cases with ⟨rfl, rfl⟩ | ⟨g, cap, cur, rfl, hb, hg, hn, hc, hs, ht⟩
 ·exact ⟨none, 0, rfl, .inl ⟨rfl, rfl, rfl⟩⟩
 ·refine ⟨_, cap, rfl, .inr ⟨g, rfl, hb, (Array.getElem?_eq_some_iff.1 hg).1, fun o => unfrozen_of_block hg o, fun j u hj => ?_⟩⟩
  rw [cell_of_block hg j]
  rw [← ht, List.getElem?_take] at hj
  split at hj
  ·simpa using hj
  ·cases hj
theorem infoTk : (Tryz.prog.info? 84).map (fun i => (i.zero, i.size, i.bytes)) = some (some (.agg #[.int .i64 0, .string ByteArray.empty, .int .i64 0, .int .i64 0]), 4, 40) := by kernel_rfl
theorem wp_pushT {ops : Array Oper} {rest : List Oper} {o : Oper} {a : Act} {w : World} {Q : Exit → Act → World → Prop} (hgd : o.guard = none) (s x : Operand)
  (ho : o.op = .call { callee := .builtin .append, args := #[s, x], argTypes := #[55, 55] })
  (B : Nat) (v : Value) (l : List Tk) (hs : a.eval s = v) (hown : OwT w B v l) (hB : B ≤ w.heap.size) (ad : Addr) (m c : Nat) (rs : List Tk) (hm : rs.length = m) (hx : a.eval x = .slice (some ad) m c)
  (hnews : ∀ j u, (tkcells rs)[j]? = some u → w.cell? (ad.add j) = some u) (hsz : l.length + m ≤ 4294967297)
  (h : ∀ v' w', OwT w' B v' (l ++ rs) → w.grownBy w' v.ownBlock → wpList Tryz.prog ops Q rest (a.put o.dst v') w') : wpList Tryz.prog ops Q (o :: rest) a w := by
 obtain ⟨i0, hi, hz0, hz1, hz2⟩ := info_parts infoTk
 refine wpList_append_own w hgd s x _ ho B 84 i0 _ 4 40 Tryz.underlying55 hi hz0 hz1 hz2 rfl (by decide) v l.length (tkcells l) hs hown ad m c (tkcells rs) hx (by rw [tkcells_length, hm]) hnews (tkcells_one rs) (by unfold maxLen; omega) (by omega) hB ?_
 intro v' w' h1 h2 h3
 refine h v' w' ?_ h2
 unfold OwT
 rw [tkcells_app, List.length_append, hm]
 exact h1
theorem newsT (w : World) (t : Tk) : ∀ j x, (tkcells [t])[j]? = some x → (w.alloc (.cells #[.int .i64 (t.kind : Int), .string (strB t.text), .int .i64 (t.num : Int), .int .i64 (t.scale : Int)] 84)).cell? ((⟨w.heap.size, 0, none⟩ : Addr).add j) = some x :=
 World.news_of_block (cs := #[.int .i64 (t.kind : Int), .string (strB t.text), .int .i64 (t.num : Int), .int .i64 (t.scale : Int)]) (heap_alloc_new w _)
end Go.Proofs.YtofnkfjhmjecjaaGreatDoor

namespace Go.Proofs.YtofnkfjhmjecjaaGreatDoor
set_option maxRecDepth 100000
open Go.RowKit Go.Joins Go.ChangeShapes Go.WideShapes
set_option linter.unusedVariables false
set_option linter.unusedSimpArgs false
theorem isB_news {w : World} {b off : Nat} {l : List Nat} (h : IsB w b off l) : ∀ j u, (bcells l)[j]? = some u → w.cell? ((⟨b, off, none⟩ : Addr).add j) = some u := by
 intro j u hj
 have ea : (⟨b, off, none⟩ : Addr).add j = ⟨b, off + j, none⟩ := by unfold Addr.add; split <;> simp_all
 rw [ea]
 unfold bcells at hj
 rw [List.getElem?_map] at hj
 cases hx : l[j]? with
 | none => rw [hx] at hj; cases hj
 | some x =>
  rw [hx] at hj
  injection hj with hj
  rw [← hj]
  exact h.c j x hx
set_option maxHeartbeats 1000000 in
theorem grow_b (n : Nat) (h0 : 0 < n) (hn : n ≤ 8589934592) (w : World) :
  Calls Tryz.prog 188 #[.slice none 0 0, .int .i64 n] w fun e w' => ∃ v, e = .returned v ∧ OwB w' w.heap.size v [] ∧ Below w.heap.size w w' := by
 obtain ⟨i0, hi, hz0, hz1, hz2⟩ := info_parts infoB
 have hr := fun ty => Lib.run_append_nil_zeros (P := Tryz.prog) w 78 3 ty 5 i0 (.int .u8 0) .i64 .i64 Tryz.underlying78 Tryz.underlying3 hi hz0 n h0 (by omega) (by omega) (by rw [hz2]; omega)
 have hge := grownCap_ge w n 0 5
 have hle := grownCap_le_maxLen w n 0 5 (by unfold maxLen; omega)
 have hx : OwB (w.drew.alloc (.cells (Builtin.zeroCells (Value.int .u8 0).cells n ++ Builtin.zeroCells (Value.int .u8 0).cells (grownCap w n 0 5 - n)) 5)) w.heap.size (.slice (some ⟨w.heap.size, 0, none⟩) 0 (grownCap w n 0 5)) [] :=
  ⟨⟨rfl, .inr ⟨w.heap.size, _, _, rfl, Nat.le_refl _, heap_alloc_new w.drew _, Nat.zero_le _, hle, by simp [Builtin.zeroCells, Value.cells]; omega, by simp [bcells]⟩⟩, by simp⟩
 have hb : Below w.heap.size w (w.drew.alloc (.cells (Builtin.zeroCells (Value.int .u8 0).cells n ++ Builtin.zeroCells (Value.int .u8 0).cells (grownCap w n 0 5 - n)) 5)) := (Below.refl _ _).drew.alloc (Nat.le_refl _) _
 generalize hW : w.drew.alloc (.cells (Builtin.zeroCells (Value.int .u8 0).cells n ++ Builtin.zeroCells (Value.int .u8 0).cells (grownCap w n 0 5 - n)) 5) = W at hr hx hb
 generalize grownCap w n 0 5 = C at *
 generalize hg : w.heap.size = g at *
 have HX := Lib.hid (And.intro hx hb)
 have HR := Lib.hid hr
 clear hx hb hr hW hg
 have k1 : (n : Int) ≤ (C : Int) := by omega
 have k2 : decide ((0 : Int) < (n : Int)) = true := by simp; omega
 go_enter Tryz.func188, Tryz.ntmps188
 go_wp2_with (first | (at_builtin; refine Lib.wpList_append_run _ rfl (.tmp 20) (.tmp 21) _ _ rfl _ _ rfl rfl _ _ (HR.out _) ?_))
 go_ret
 exact ⟨_, rfl, HX.out.1, HX.out.2⟩
set_option maxHeartbeats 2000000 in
theorem concat_b {w : World} {h b off c b2 off2 c2 : Nat} {l l2 : List Nat} (h1 : w.cell? ⟨h, 0, none⟩ = some (.slice (some ⟨b, off, none⟩) l.length c)) (h2 : w.cell? ⟨h, 1, none⟩ = some (.slice (some ⟨b2, off2, none⟩) l2.length c2))
  (hA : IsB w b off l) (hB : IsB w b2 off2 l2) (h0 : 0 < l.length) (hl : l.length ≤ 4294967296) (hl2 : l2.length ≤ 4294967296) :
  Calls Tryz.prog 162 #[.slice (some ⟨h, 0, none⟩) 2 2] w fun e w' => ∃ v, e = .returned v ∧ OwB w' w.heap.size v (l ++ l2) ∧ Below w.heap.size w w' := by
 have hhw : h < w.heap.size := Lib.lt_of_cell h1
 obtain ⟨m, hm⟩ : ∃ m, l.length = m := ⟨_, rfl⟩
 obtain ⟨k, hk⟩ : ∃ k, l2.length = k := ⟨_, rfl⟩
 have HM := Lib.hid (And.intro hm hk)
 rw [hm] at h1 hl h0
 rw [hk] at h2 hl2
 have HAB := Lib.hid (And.intro hA hB)
 have HG := Lib.hid (grow_b (m + k) (by omega) (by omega) w)
 clear hA hB hm hk
 go_enter Tryz.func162, Tryz.ntmps162
 go_wp2_with fail
 go_loopw [3, 11] (fun s i wr => w = wr ∧ ((s = .int .i64 0 ∧ i = .int .i64 0) ∨ (s = .int .i64 m ∧ i = .int .i64 1) ∨ (s = .int .i64 ((m : Int) + (k : Int)) ∧ i = .int .i64 2))) (fun _ i _ => 2 - (intOf i).toNat)
 case atStart => exact ⟨rfl, .inl ⟨rfl, rfl⟩⟩
 case round =>
  obtain ⟨rfl, hs⟩ := hrel
  rcases hs with ⟨rfl, rfl⟩ | ⟨rfl, rfl⟩ | ⟨rfl, rfl⟩
  ·have e1 : IntKind.i64.wrap (m : Int) = m := by rw [IntKind.wrap_i64]; omega
   go_wp2_with fail
   go_roundw
   case rel => exact ⟨by trivial, .inr (.inl ⟨rfl, rfl⟩)⟩
   case measure => simp [intOf]
  ·have e1 : IntKind.i64.wrap ((m : Int) + (k : Int)) = (m : Int) + (k : Int) := by rw [IntKind.wrap_i64]; omega
   have e2 : decide ((m : Int) + (k : Int) < 0) = false := by simp; omega
   go_wp2_with fail
   go_roundw
   case rel => exact ⟨by trivial, .inr (.inr ⟨rfl, rfl⟩)⟩
   case measure => simp [intOf]
  ·go_wp2_with (first | (go_at_call 188; refine HG.out.mono ?_; rintro e w1 ⟨v1, rfl, o1, b1⟩; have HO1 := Lib.hid (And.intro o1 b1); clear o1 b1))
   go_loopw [6, 27] (fun v i wr => ∃ L, OwB wr w.heap.size v L ∧ Below w.heap.size w wr ∧ w.heap.size ≤ wr.heap.size ∧ ((L = [] ∧ i = .int .i64 0) ∨ (L = l ∧ i = .int .i64 1) ∨ (L = l ++ l2 ∧ i = .int .i64 2))) (fun _ i _ => 2 - (intOf i).toNat)
   case atStart => exact ⟨[], HO1.out.1, HO1.out.2, HO1.out.2.size, .inl ⟨rfl, rfl⟩⟩
   case round =>
    obtain ⟨L, oL, bL, sL, hs⟩ := hrel
    have d1 : wr.cell? ⟨h, 0, none⟩ = some (.slice (some ⟨b, off, none⟩) m c) := (bL.cell (p := ⟨h, 0, none⟩) hhw).trans h1
    have d2 : wr.cell? ⟨h, 1, none⟩ = some (.slice (some ⟨b2, off2, none⟩) k c2) := (bL.cell (p := ⟨h, 1, none⟩) hhw).trans h2
    have HL := Lib.hid (And.intro oL (And.intro bL sL))
    clear oL bL sL
    rcases hs with ⟨rfl, rfl⟩ | ⟨rfl, rfl⟩ | ⟨rfl, rfl⟩
    ·go_wp2_with (first | (at_builtin; refine wp_push rfl _ _ rfl w.heap.size _ _ rfl HL.out.1 ⟨b, off, none⟩ m c l rfl HM.out.1 (isB_news (HAB.out.1.below HL.out.2.1)) (by simp; omega) HL.out.2.2 ?_; intro v2 w2 own2 gr2; have HX := Lib.hid (And.intro own2 (And.intro (HL.out.2.1.grown gr2 HL.out.2.2 (fun k hk => (HL.out.1.lt k hk).1)) gr2.size)); clear own2 gr2))
     go_roundw
     case rel => exact ⟨l, by simpa using HX.out.1, HX.out.2.1, Nat.le_trans HL.out.2.2 HX.out.2.2, .inr (.inl ⟨rfl, rfl⟩)⟩
     case measure => simp [intOf]
    ·go_wp2_with (first | (at_builtin; refine wp_push rfl _ _ rfl w.heap.size _ _ rfl HL.out.1 ⟨b2, off2, none⟩ k c2 l2 rfl HM.out.2 (isB_news (HAB.out.2.below HL.out.2.1)) (by have := HM.out.1; omega) HL.out.2.2 ?_; intro v2 w2 own2 gr2; have HX := Lib.hid (And.intro own2 (And.intro (HL.out.2.1.grown gr2 HL.out.2.2 (fun k hk => (HL.out.1.lt k hk).1)) gr2.size)); clear own2 gr2))
     go_roundw
     case rel => exact ⟨_, HX.out.1, HX.out.2.1, Nat.le_trans HL.out.2.2 HX.out.2.2, .inr (.inr ⟨rfl, rfl⟩)⟩
     case measure => simp [intOf]
    ·go_wp2_with fail
     go_ret
     exact ⟨_, rfl, HL.out.1, HL.out.2.1⟩
set_option maxHeartbeats 1000000 in
theorem clone_b {w : World} {b off : Nat} (m c : Nat) {l : List Nat} (hm : l.length = m) (hA : IsB w b off l) (hl : m ≤ 4294967296) :
  Calls Tryz.prog 164 #[.slice (some ⟨b, off, none⟩) m c] w fun e w' => ∃ v, e = .returned v ∧ OwB w' w.heap.size v l ∧ Below w.heap.size w w' := by
 obtain ⟨W1, hW1⟩ : ∃ W1, W1 = w.alloc (.cells #[] 5) := ⟨_, rfl⟩
 have hO : OwB W1 w.heap.size (.slice (some ⟨w.heap.size, 0, none⟩) 0 0) [] := by rw [hW1]; exact ⟨World.ownsRow_made w #[] 0 (Nat.le_refl _) (by decide) rfl, by simp⟩
 have hb : Below w.heap.size w W1 := by rw [hW1]; exact (Below.refl _ _).alloc (Nat.le_refl _) _
 have HO := Lib.hid hO
 have HB := Lib.hid hb
 have HN := Lib.hid (isB_news (hA.below hb))
 have HW := Lib.hid hW1
 have HM := Lib.hid hm
 have heq : (binOp .eql 78 (.slice (some ⟨b, off, none⟩) m c) (.slice none 0 0)).run Tryz.prog w = .ok (.bool false) w := Lib.run_eql_slice_nil w _ _ _ _ _ _ _ Tryz.underlying78
 clear hO hb hW1 hm hA
 go_enter Tryz.func164, Tryz.ntmps164
 go_wp2_with (first | (at_builtin; rw [← HW.out]; refine wp_push rfl (.tmp 5) (.tmp 6) rfl w.heap.size (.slice (some ⟨w.heap.size, 0, none⟩) 0 0) [] rfl HO.out ⟨b, off, none⟩ m c l rfl HM.out HN.out (by simp; omega) HB.out.size ?_; intro v1 w1 hown1 hgrow1; have HX := Lib.hid (And.intro hown1 (HB.out.grown hgrow1 HB.out.size (fun k hk => (HO.out.lt k hk).1))); clear hown1 hgrow1))
 go_ret
 exact ⟨_, rfl, by simpa using HX.out.1, HX.out.2⟩
end Go.Proofs.YtofnkfjhmjecjaaGreatDoor
