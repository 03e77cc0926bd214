/-
  Texts of mine put together, in build order.
  Conditions: as each declaration says.
-/
import Derived.Test.YtofnkfjhmjecjaaGreatDoorZp10
namespace Go.Proofs.YtofnkfjhmjecjaaGreatDoor
set_option maxRecDepth 100000
open Go.RowKit Go.Joins Go.ChangeShapes Go.WideShapes
set_option linter.unusedVariables false
set_option linter.unusedSimpArgs false
theorem XL.mem_up {α β : Type} {P : Program} {E : EK P α β} {w : World} {a b : Nat} {y : XL α} (h : a ≤ b) (hm : XL.Mem E (GE b) w y) : XL.Mem E (GE a) w y := XL.Mem.mono (fun k hk => Nat.le_trans h hk) y hm
theorem XL.Mem.stp {α β : Type} {P : Program} {E : EK P α β} {w w2 : World} {pb B : Nat} {s : PS} {y : XL α} (h : XL.Mem E (GE B) w y) (h2 : Stp w w2 pb s) (hB : pb < B) : XL.Mem E (GE B) w2 y := XL.Mem.frm h2.fr (fun k hk e => by have : B ≤ k := hk; omega) y h
set_option maxHeartbeats 2000000 in
theorem encl_ex {g pb : Nat} {one : PS → RX Ex} (hone : PR g pb (RE exk) one) (henter : ∀ args w, (callFunc g args).run Tryz.prog w = .ok (.enter g args) w) (hus : ∀ s a s', one s = some (.ok (a, s')) → s'.rest.length ≤ s.rest.length)
  {w : World} {s : PS} {r : Except Nat (List Ex × PS)} (h : PsM w pb s) (n most : Nat) (hmost : most ≤ 100) (hmost1 : 1 ≤ most) (hr : enclP one most n s = some r) :
  Calls Tryz.prog 170 #[.pointer (some ⟨pb, 0, none⟩), .func (.func g) #[.pointer (some ⟨pb, 0, none⟩)] #[], .int .i64 (most : Int)] w (EndP w pb (RL exk w.heap.size) r) := by
 generalize hP : EndP w pb (RL exk w.heap.size) r = P
 have HP := Lib.hid hP
 have hpb := h.lt
 have S1 := Lib.hid (Stp.refl h)
 have HR := Lib.hid hr
 have HON := Lib.hid hone
 have HUS := Lib.hid hus
 unfold enclP at HR
 clear hP h hr hone hus
 go_enter Tryz.func170, Tryz.ntmps170
 go_wp2_with (first | (go_at_call 44; rcases need_bind HR.out with ⟨ha, rfl⟩ | ⟨ha, hrr⟩; refine (need_g S1.out.ps zqOpen (by decide) (by first | rfl | simp | assumption)).mono ?_; rintro e w2 hn; obtain ⟨rfl, ff⟩ := hn.2 ha; exact ⟨rfl, by rw [← HP.out]; exact ⟨S1.out.fr.trans ff (New.refl _ _), rfl⟩⟩; refine (need_g S1.out.ps zqOpen (by decide) (by first | rfl | simp | assumption)).mono ?_; rintro e w2 hn; obtain ⟨rfl, ss⟩ := hn.1 ha; have S2 := Lib.hid (S1.out.trans ss); have HR2 := Lib.hid hrr; clear ss hn hrr ha HR) | (go_at_call 192; rcases bind_call HR2.out with ⟨c, hx, rfl⟩ | ⟨aa, sa, hx, hrr⟩; refine (list_ex HON.out henter HUS.out S2.out.ps n most hmost hmost1 hx).mono ?_; rintro e w3 ⟨ff, rfl⟩; exact ⟨rfl, by rw [← HP.out]; exact ⟨S2.out.fr.trans ff (New.refl _ _), rfl⟩⟩; refine (list_ex HON.out henter HUS.out S2.out.ps n most hmost hmost1 hx).mono ?_; rintro e w3 ⟨ff, v, rfl, hv, pp⟩; obtain ⟨y, rfl, hye, my⟩ := hv; have S3 := Lib.hid (S2.out.trans ⟨ff, pp⟩); have HR3 := Lib.hid hrr; have MY := Lib.hid my; have HYE := Lib.hid hye; clear hye my; clear pp hrr hx HR2) | (go_at_call 44; rcases need_bind HR3.out with ⟨ha, rfl⟩ | ⟨ha, hrr⟩; refine (need_g S3.out.ps zqShut (by decide) (by first | rfl | simp | assumption)).mono ?_; rintro e w4 hn; obtain ⟨rfl, ff⟩ := hn.2 ha; exact ⟨rfl, by rw [← HP.out]; exact ⟨S3.out.fr.trans ff (New.refl _ _), rfl⟩⟩; refine (need_g S3.out.ps zqShut (by decide) (by first | rfl | simp | assumption)).mono ?_; rintro e w4 hn; obtain ⟨rfl, ss⟩ := hn.1 ha; have S4 := Lib.hid (S3.out.trans ss); have HR4 := Lib.hid hrr; have MY4 := Lib.hid (XL.Mem.stp MY.out ss (Nat.lt_of_lt_of_le hpb S2.out.fr.size)); clear ss hn hrr ha HR3))
 have hrc := ret_ok HR4.out
 have hfin : P (.returned y.val) w4 := by
  rw [← HP.out, hrc]
  exact ⟨S4.out.fr, _, rfl, ⟨y, rfl, HYE.out, XL.mem_up S2.out.fr.size MY4.out⟩, S4.out.ps⟩
 exact hfin
set_option maxHeartbeats 2000000 in
theorem encl_st {g pb : Nat} {one : PS → RX (List Nat)} (hone : PR g pb (RE stk) one) (henter : ∀ args w, (callFunc g args).run Tryz.prog w = .ok (.enter g args) w) (hus : ∀ s a s', one s = some (.ok (a, s')) → s'.rest.length ≤ s.rest.length)
  {w : World} {s : PS} {r : Except Nat (List (List Nat) × PS)} (h : PsM w pb s) (n most : Nat) (hmost : most ≤ 100) (hmost1 : 1 ≤ most) (hr : enclP one most n s = some r) :
  Calls Tryz.prog 106 #[.pointer (some ⟨pb, 0, none⟩), .func (.func g) #[.pointer (some ⟨pb, 0, none⟩)] #[], .int .i64 (most : Int)] w (EndP w pb (RL stk w.heap.size) r) := by
 generalize hP : EndP w pb (RL stk w.heap.size) r = P
 have HP := Lib.hid hP
 have hpb := h.lt
 have S1 := Lib.hid (Stp.refl h)
 have HR := Lib.hid hr
 have HON := Lib.hid hone
 have HUS := Lib.hid hus
 unfold enclP at HR
 clear hP h hr hone hus
 go_enter Tryz.func106, Tryz.ntmps106
 go_wp2_with (first | (go_at_call 44; rcases need_bind HR.out with ⟨ha, rfl⟩ | ⟨ha, hrr⟩; refine (need_g S1.out.ps zqOpen (by decide) (by first | rfl | simp | assumption)).mono ?_; rintro e w2 hn; obtain ⟨rfl, ff⟩ := hn.2 ha; exact ⟨rfl, by rw [← HP.out]; exact ⟨S1.out.fr.trans ff (New.refl _ _), rfl⟩⟩; refine (need_g S1.out.ps zqOpen (by decide) (by first | rfl | simp | assumption)).mono ?_; rintro e w2 hn; obtain ⟨rfl, ss⟩ := hn.1 ha; have S2 := Lib.hid (S1.out.trans ss); have HR2 := Lib.hid hrr; clear ss hn hrr ha HR) | (go_at_call 169; rcases bind_call HR2.out with ⟨c, hx, rfl⟩ | ⟨aa, sa, hx, hrr⟩; refine (list_st HON.out henter HUS.out S2.out.ps n most hmost hmost1 hx).mono ?_; rintro e w3 ⟨ff, rfl⟩; exact ⟨rfl, by rw [← HP.out]; exact ⟨S2.out.fr.trans ff (New.refl _ _), rfl⟩⟩; refine (list_st HON.out henter HUS.out S2.out.ps n most hmost hmost1 hx).mono ?_; rintro e w3 ⟨ff, v, rfl, hv, pp⟩; obtain ⟨y, rfl, hye, my⟩ := hv; have S3 := Lib.hid (S2.out.trans ⟨ff, pp⟩); have HR3 := Lib.hid hrr; have MY := Lib.hid my; have HYE := Lib.hid hye; clear hye my; clear pp hrr hx HR2) | (go_at_call 44; rcases need_bind HR3.out with ⟨ha, rfl⟩ | ⟨ha, hrr⟩; refine (need_g S3.out.ps zqShut (by decide) (by first | rfl | simp | assumption)).mono ?_; rintro e w4 hn; obtain ⟨rfl, ff⟩ := hn.2 ha; exact ⟨rfl, by rw [← HP.out]; exact ⟨S3.out.fr.trans ff (New.refl _ _), rfl⟩⟩; refine (need_g S3.out.ps zqShut (by decide) (by first | rfl | simp | assumption)).mono ?_; rintro e w4 hn; obtain ⟨rfl, ss⟩ := hn.1 ha; have S4 := Lib.hid (S3.out.trans ss); have HR4 := Lib.hid hrr; have MY4 := Lib.hid (XL.Mem.stp MY.out ss (Nat.lt_of_lt_of_le hpb S2.out.fr.size)); clear ss hn hrr ha HR3))
 have hrc := ret_ok HR4.out
 have hfin : P (.returned y.val) w4 := by
  rw [← HP.out, hrc]
  exact ⟨S4.out.fr, _, rfl, ⟨y, rfl, HYE.out, XL.mem_up S2.out.fr.size MY4.out⟩, S4.out.ps⟩
 exact hfin
set_option maxHeartbeats 2000000 in
theorem encl_co {g pb : Nat} {one : PS → RX Co} (hone : PR g pb (RE cok) one) (henter : ∀ args w, (callFunc g args).run Tryz.prog w = .ok (.enter g args) w) (hus : ∀ s a s', one s = some (.ok (a, s')) → s'.rest.length ≤ s.rest.length)
  {w : World} {s : PS} {r : Except Nat (List Co × PS)} (h : PsM w pb s) (n most : Nat) (hmost : most ≤ 100) (hmost1 : 1 ≤ most) (hr : enclP one most n s = some r) :
  Calls Tryz.prog 104 #[.pointer (some ⟨pb, 0, none⟩), .func (.func g) #[.pointer (some ⟨pb, 0, none⟩)] #[], .int .i64 (most : Int)] w (EndP w pb (RL cok w.heap.size) r) := by
 generalize hP : EndP w pb (RL cok w.heap.size) r = P
 have HP := Lib.hid hP
 have hpb := h.lt
 have S1 := Lib.hid (Stp.refl h)
 have HR := Lib.hid hr
 have HON := Lib.hid hone
 have HUS := Lib.hid hus
 unfold enclP at HR
 clear hP h hr hone hus
 go_enter Tryz.func104, Tryz.ntmps104
 go_wp2_with (first | (go_at_call 44; rcases need_bind HR.out with ⟨ha, rfl⟩ | ⟨ha, hrr⟩; refine (need_g S1.out.ps zqOpen (by decide) (by first | rfl | simp | assumption)).mono ?_; rintro e w2 hn; obtain ⟨rfl, ff⟩ := hn.2 ha; exact ⟨rfl, by rw [← HP.out]; exact ⟨S1.out.fr.trans ff (New.refl _ _), rfl⟩⟩; refine (need_g S1.out.ps zqOpen (by decide) (by first | rfl | simp | assumption)).mono ?_; rintro e w2 hn; obtain ⟨rfl, ss⟩ := hn.1 ha; have S2 := Lib.hid (S1.out.trans ss); have HR2 := Lib.hid hrr; clear ss hn hrr ha HR) | (go_at_call 167; rcases bind_call HR2.out with ⟨c, hx, rfl⟩ | ⟨aa, sa, hx, hrr⟩; refine (list_co HON.out henter HUS.out S2.out.ps n most hmost hmost1 hx).mono ?_; rintro e w3 ⟨ff, rfl⟩; exact ⟨rfl, by rw [← HP.out]; exact ⟨S2.out.fr.trans ff (New.refl _ _), rfl⟩⟩; refine (list_co HON.out henter HUS.out S2.out.ps n most hmost hmost1 hx).mono ?_; rintro e w3 ⟨ff, v, rfl, hv, pp⟩; obtain ⟨y, rfl, hye, my⟩ := hv; have S3 := Lib.hid (S2.out.trans ⟨ff, pp⟩); have HR3 := Lib.hid hrr; have MY := Lib.hid my; have HYE := Lib.hid hye; clear hye my; clear pp hrr hx HR2) | (go_at_call 44; rcases need_bind HR3.out with ⟨ha, rfl⟩ | ⟨ha, hrr⟩; refine (need_g S3.out.ps zqShut (by decide) (by first | rfl | simp | assumption)).mono ?_; rintro e w4 hn; obtain ⟨rfl, ff⟩ := hn.2 ha; exact ⟨rfl, by rw [← HP.out]; exact ⟨S3.out.fr.trans ff (New.refl _ _), rfl⟩⟩; refine (need_g S3.out.ps zqShut (by decide) (by first | rfl | simp | assumption)).mono ?_; rintro e w4 hn; obtain ⟨rfl, ss⟩ := hn.1 ha; have S4 := Lib.hid (S3.out.trans ss); have HR4 := Lib.hid hrr; have MY4 := Lib.hid (XL.Mem.stp MY.out ss (Nat.lt_of_lt_of_le hpb S2.out.fr.size)); clear ss hn hrr ha HR3))
 have hrc := ret_ok HR4.out
 have hfin : P (.returned y.val) w4 := by
  rw [← HP.out, hrc]
  exact ⟨S4.out.fr, _, rfl, ⟨y, rfl, HYE.out, XL.mem_up S2.out.fr.size MY4.out⟩, S4.out.ps⟩
 exact hfin
set_option maxHeartbeats 2000000 in
theorem row_p (n pb : Nat) : PR 108 pb (RE rok) (enclP (wholeP isN n) 50 n) := by
 intro w s r h hr
 generalize hP : EndP w pb (RE rok w.heap.size) r = P
 have HP := Lib.hid hP
 have hent : ∀ args w, (callFunc 116 args).run Tryz.prog w = .ok (.enter 116 args) w := enters_of Tryz.func116 (by kernel_rfl) rfl
 have HC := Lib.hid (encl_ex (whole_p n pb) hent (fun s a s' q => (Rdr.whole isN).us n s a s' q) h n 50 (by decide) (by decide) hr)
 clear hP h hr
 match r, HC, HP with
 | .error c, HC, HP =>
  go_enter Tryz.func108, Tryz.ntmps108
  go_wp2_with (first | (go_at_call 170; refine HC.out.mono ?_; rintro e w2 ⟨ff, rfl⟩; have F2 := Lib.hid ff; clear ff))
  exact ⟨rfl, by rw [← HP.out]; exact ⟨F2.out, rfl⟩⟩
 | .ok (l, s2), HC, HP =>
  go_enter Tryz.func108, Tryz.ntmps108
  go_wp2_with (first | (go_at_call 170; refine HC.out.mono ?_; rintro e w2 ⟨ff, v, rfl, ⟨y, rfl, hye, my⟩, pp⟩; have H2 := Lib.hid (And.intro ff (And.intro pp (And.intro hye my))); clear ff pp hye my))
  have hfin : P (.returned y.val) w2 := by
   rw [← HP.out]
   exact ⟨H2.out.1, _, rfl, ⟨y, rfl, H2.out.2.2.1, H2.out.2.2.2⟩, H2.out.2.1⟩
  exact hfin
end Go.Proofs.YtofnkfjhmjecjaaGreatDoor

namespace Go.Proofs.YtofnkfjhmjecjaaGreatDoor
set_option maxRecDepth 100000
open Go.RowKit Go.Joins Go.ChangeShapes Go.WideShapes
set_option linter.unusedVariables false
set_option linter.unusedSimpArgs false
def stL (w : World) (g : Nat) : Nat → List Value → World
 | _, [] => w
 | o, v :: r => stL (w.setCell ⟨g, o, none⟩ v) g (o + 1) r
theorem stL_frm {F : Bl} {w : World} {g : Nat} (hg : F g ∨ w.heap.size ≤ g) : ∀ (l : List Value) (o : Nat) {w1 : World}, Frm F w w1 → Frm F w (stL w1 g o l)
 | [], _, _, f => f
 | v :: r, o, w1, f => stL_frm hg r (o + 1) (f.setCell hg o v)
theorem stL_box {g : Nat} {T : TypeId} : ∀ (l : List Value) (o : Nat) {w : World} {cs : Array Value}, Bx w g cs T → o + l.length ≤ cs.size → ∃ ds : Array Value, Bx (stL w g o l) g ds T ∧ ds.size = cs.size ∧ (∀ j, j < o → ds[j]? = cs[j]?) ∧ (∀ j, j < l.length → ds[o + j]? = l[j]?) ∧ ∀ j, o + l.length ≤ j → ds[j]? = cs[j]?
 | [], o, w, cs, hb, _ => ⟨cs, hb, rfl, fun _ _ => rfl, fun j hj => absurd hj (Nat.not_lt_zero j), fun _ _ => rfl⟩
 | v :: r, o, w, cs, hb, hl => by
  rw [List.length_cons] at hl
  obtain ⟨ds, h1, h2, h3, h4, h5⟩ := stL_box r (o + 1) (box_set hb o v) (by simp; omega)
  have hsz : (cs.setIfInBounds o v).size = cs.size := by simp
  refine ⟨ds, h1, h2.trans hsz, fun j hj => ?_, fun j hj => ?_, fun j hj => ?_⟩
  ·rw [h3 j (by omega), Array.getElem?_setIfInBounds]
   rw [if_neg (by omega)]
  ·cases j with
   | zero =>
    rw [Nat.add_zero, h3 o (by omega), Array.getElem?_setIfInBounds, if_pos rfl, if_pos (by omega)]
    rfl
   | succ j =>
    rw [List.length_cons] at hj
    have := h4 j (by omega)
    rw [show o + (j + 1) = o + 1 + j by omega, this]
    rfl
  ·rw [List.length_cons] at hj
   rw [h5 j (by omega), Array.getElem?_setIfInBounds]
   rw [if_neg (by omega)]
theorem stL_all {w : World} {g : Nat} {T : TypeId} {cs : Array Value} (hb : Bx w g cs T) (l : List Value) (hl : l.length = cs.size) : Bx (stL w g 0 l) g l.toArray T := by
 obtain ⟨ds, h1, h2, -, h4, -⟩ := stL_box l 0 hb (by omega)
 have : ds = l.toArray := by
  apply Array.ext_getElem?
  intro i
  by_cases c : i < l.length
  ·have := h4 i c
   rw [Nat.zero_add] at this
   rw [this, List.getElem?_toArray]
  ·rw [Array.getElem?_eq_none (by omega), Array.getElem?_eq_none (by simp; omega)]
 rw [← this]
 exact h1
theorem fin_E {α β : Type} {P : Program} (E : EK P α β) {w w2 : World} {pb : Nat} {s : PS} (hS : Stp w w2 pb s) (hp : pb < w.heap.size) {cs : Array Value} (hb : Bx w2 w.heap.size cs E.te) (hcs : cs.size = E.n) (x : α) (hm : E.Mem (fun k => w.heap.size < k) w2 x) :
  Bx (stL w2 w.heap.size 0 (E.enc x)) w.heap.size (E.enc x).toArray E.te ∧ EndP w pb (RE E w.heap.size) (.ok (E.er x, s)) (.returned (E.val x)) (stL w2 w.heap.size 0 (E.enc x)) := by
 have f7 : Frm (fun k => k = w.heap.size) w2 (stL w2 w.heap.size 0 (E.enc x)) := stL_frm (F := fun k => k = w.heap.size) (.inl rfl) _ _ (Frm.refl _ _)
 refine ⟨stL_all hb _ (by rw [E.len, hcs]), hS.fr.trans f7 (fun k hk => .inr (Nat.le_of_eq hk.symm)), _, rfl, ⟨x, rfl, rfl, ?_⟩, hS.ps.frm f7 (fun k hk e => by omega)⟩
 exact E.mono (fun k hk => Nat.le_of_lt hk) x (E.frm f7 (fun k hk e => by omega) x hm)
theorem Bx.n3 {w : World} {g : Nat} {u0 u1 u2 : Value} {T : TypeId} (h : Bx w g #[u0, u1, u2] T) : (w.cell? ⟨g, 0, none⟩ = some u0 ∧ w.cell? ⟨g, 1, none⟩ = some u1 ∧ w.cell? ⟨g, 2, none⟩ = some u2) ∧ w.frozen? ⟨g, 0, none⟩ = false ∧ w.frozen? ⟨g, 1, none⟩ = false ∧ w.frozen? ⟨g, 2, none⟩ = false :=
 ⟨⟨h.cell rfl, h.cell rfl, h.cell rfl⟩, h.frz 0, h.frz 1, h.frz 2⟩
theorem Bx.n8 {w : World} {g : Nat} {u0 u1 u2 u3 u4 u5 u6 u7 : Value} {T : TypeId} (h : Bx w g #[u0, u1, u2, u3, u4, u5, u6, u7] T) : (w.cell? ⟨g, 0, none⟩ = some u0 ∧ w.cell? ⟨g, 1, none⟩ = some u1 ∧ w.cell? ⟨g, 2, none⟩ = some u2 ∧ w.cell? ⟨g, 3, none⟩ = some u3 ∧ w.cell? ⟨g, 4, none⟩ = some u4 ∧ w.cell? ⟨g, 5, none⟩ = some u5 ∧ w.cell? ⟨g, 6, none⟩ = some u6 ∧ w.cell? ⟨g, 7, none⟩ = some u7) ∧ w.frozen? ⟨g, 0, none⟩ = false ∧ w.frozen? ⟨g, 1, none⟩ = false ∧ w.frozen? ⟨g, 2, none⟩ = false ∧ w.frozen? ⟨g, 3, none⟩ = false ∧ w.frozen? ⟨g, 4, none⟩ = false ∧ w.frozen? ⟨g, 5, none⟩ = false ∧ w.frozen? ⟨g, 6, none⟩ = false ∧ w.frozen? ⟨g, 7, none⟩ = false :=
 ⟨⟨h.cell rfl, h.cell rfl, h.cell rfl, h.cell rfl, h.cell rfl, h.cell rfl, h.cell rfl, h.cell rfl⟩, h.frz 0, h.frz 1, h.frz 2, h.frz 3, h.frz 4, h.frz 5, h.frz 6, h.frz 7⟩
theorem Bx.n9 {w : World} {g : Nat} {u0 u1 u2 u3 u4 u5 u6 u7 u8 : Value} {T : TypeId} (h : Bx w g #[u0, u1, u2, u3, u4, u5, u6, u7, u8] T) : (w.cell? ⟨g, 0, none⟩ = some u0 ∧ w.cell? ⟨g, 1, none⟩ = some u1 ∧ w.cell? ⟨g, 2, none⟩ = some u2 ∧ w.cell? ⟨g, 3, none⟩ = some u3 ∧ w.cell? ⟨g, 4, none⟩ = some u4 ∧ w.cell? ⟨g, 5, none⟩ = some u5 ∧ w.cell? ⟨g, 6, none⟩ = some u6 ∧ w.cell? ⟨g, 7, none⟩ = some u7 ∧ w.cell? ⟨g, 8, none⟩ = some u8) ∧ w.frozen? ⟨g, 0, none⟩ = false ∧ w.frozen? ⟨g, 1, none⟩ = false ∧ w.frozen? ⟨g, 2, none⟩ = false ∧ w.frozen? ⟨g, 3, none⟩ = false ∧ w.frozen? ⟨g, 4, none⟩ = false ∧ w.frozen? ⟨g, 5, none⟩ = false ∧ w.frozen? ⟨g, 6, none⟩ = false ∧ w.frozen? ⟨g, 7, none⟩ = false ∧ w.frozen? ⟨g, 8, none⟩ = false :=
 ⟨⟨h.cell rfl, h.cell rfl, h.cell rfl, h.cell rfl, h.cell rfl, h.cell rfl, h.cell rfl, h.cell rfl, h.cell rfl⟩, h.frz 0, h.frz 1, h.frz 2, h.frz 3, h.frz 4, h.frz 5, h.frz 6, h.frz 7, h.frz 8⟩
theorem Bx.n18 {w : World} {g : Nat} {u0 u1 u2 u3 u4 u5 u6 u7 u8 u9 u10 u11 u12 u13 u14 u15 u16 u17 : Value} {T : TypeId} (h : Bx w g #[u0, u1, u2, u3, u4, u5, u6, u7, u8, u9, u10, u11, u12, u13, u14, u15, u16, u17] T) : (w.cell? ⟨g, 0, none⟩ = some u0 ∧ w.cell? ⟨g, 1, none⟩ = some u1 ∧ w.cell? ⟨g, 2, none⟩ = some u2 ∧ w.cell? ⟨g, 3, none⟩ = some u3 ∧ w.cell? ⟨g, 4, none⟩ = some u4 ∧ w.cell? ⟨g, 5, none⟩ = some u5 ∧ w.cell? ⟨g, 6, none⟩ = some u6 ∧ w.cell? ⟨g, 7, none⟩ = some u7 ∧ w.cell? ⟨g, 8, none⟩ = some u8 ∧ w.cell? ⟨g, 9, none⟩ = some u9 ∧ w.cell? ⟨g, 10, none⟩ = some u10 ∧ w.cell? ⟨g, 11, none⟩ = some u11 ∧ w.cell? ⟨g, 12, none⟩ = some u12 ∧ w.cell? ⟨g, 13, none⟩ = some u13 ∧ w.cell? ⟨g, 14, none⟩ = some u14 ∧ w.cell? ⟨g, 15, none⟩ = some u15 ∧ w.cell? ⟨g, 16, none⟩ = some u16 ∧ w.cell? ⟨g, 17, none⟩ = some u17) ∧ w.frozen? ⟨g, 0, none⟩ = false ∧ w.frozen? ⟨g, 1, none⟩ = false ∧ w.frozen? ⟨g, 2, none⟩ = false ∧ w.frozen? ⟨g, 3, none⟩ = false ∧ w.frozen? ⟨g, 4, none⟩ = false ∧ w.frozen? ⟨g, 5, none⟩ = false ∧ w.frozen? ⟨g, 6, none⟩ = false ∧ w.frozen? ⟨g, 7, none⟩ = false ∧ w.frozen? ⟨g, 8, none⟩ = false ∧ w.frozen? ⟨g, 9, none⟩ = false ∧ w.frozen? ⟨g, 10, none⟩ = false ∧ w.frozen? ⟨g, 11, none⟩ = false ∧ w.frozen? ⟨g, 12, none⟩ = false ∧ w.frozen? ⟨g, 13, none⟩ = false ∧ w.frozen? ⟨g, 14, none⟩ = false ∧ w.frozen? ⟨g, 15, none⟩ = false ∧ w.frozen? ⟨g, 16, none⟩ = false ∧ w.frozen? ⟨g, 17, none⟩ = false :=
 ⟨⟨h.cell rfl, h.cell rfl, h.cell rfl, h.cell rfl, h.cell rfl, h.cell rfl, h.cell rfl, h.cell rfl, h.cell rfl, h.cell rfl, h.cell rfl, h.cell rfl, h.cell rfl, h.cell rfl, h.cell rfl, h.cell rfl, h.cell rfl, h.cell rfl⟩, h.frz 0, h.frz 1, h.frz 2, h.frz 3, h.frz 4, h.frz 5, h.frz 6, h.frz 7, h.frz 8, h.frz 9, h.frz 10, h.frz 11, h.frz 12, h.frz 13, h.frz 14, h.frz 15, h.frz 16, h.frz 17⟩
theorem retColumn {R : Ending → World → Prop} {fn : Func} {k : Nat} (hr : fn.results = #[.cell k 74]) {a : Act} {w : World} {g : Nat} {u0 u1 u2 : Value} (hb : Bx w g #[u0, u1, u2] 74)
  (h2 : a.tmps[k]?.getD undef = .pointer (some ⟨g, 0, none⟩)) (hd : a.defers = []) (hR : R (.returned (.agg #[u0, u1, u2])) w) : bodyPost Tryz.prog fn R .ret a w := by
 have z0 : w.cell? ⟨g, 0, none⟩ = some u0 := hb.cell rfl
 have z1 : w.cell? ⟨g, 1, none⟩ = some u1 := hb.cell rfl
 have z2 : w.cell? ⟨g, 2, none⟩ = some u2 := hb.cell rfl
 exact bodyPost_ret (v := .agg #[u0, u1, u2]) (by simp [results, hr, go_sem, z0, z1, z2, h2]) hd hR
theorem retItem {R : Ending → World → Prop} {fn : Func} {k : Nat} (hr : fn.results = #[.cell k 50]) {a : Act} {w : World} {g : Nat} {u0 u1 u2 u3 u4 u5 u6 u7 : Value} (hb : Bx w g #[u0, u1, u2, u3, u4, u5, u6, u7] 50)
  (h2 : a.tmps[k]?.getD undef = .pointer (some ⟨g, 0, none⟩)) (hd : a.defers = []) (hR : R (.returned (.agg #[u0, u1, u2, u3, u4, u5, u6, u7])) w) : bodyPost Tryz.prog fn R .ret a w := by
 have z0 : w.cell? ⟨g, 0, none⟩ = some u0 := hb.cell rfl
 have z1 : w.cell? ⟨g, 1, none⟩ = some u1 := hb.cell rfl
 have z2 : w.cell? ⟨g, 2, none⟩ = some u2 := hb.cell rfl
 have z3 : w.cell? ⟨g, 3, none⟩ = some u3 := hb.cell rfl
 have z4 : w.cell? ⟨g, 4, none⟩ = some u4 := hb.cell rfl
 have z5 : w.cell? ⟨g, 5, none⟩ = some u5 := hb.cell rfl
 have z6 : w.cell? ⟨g, 6, none⟩ = some u6 := hb.cell rfl
 have z7 : w.cell? ⟨g, 7, none⟩ = some u7 := hb.cell rfl
 exact bodyPost_ret (v := .agg #[u0, u1, u2, u3, u4, u5, u6, u7]) (by simp [results, hr, go_sem, z0, z1, z2, z3, z4, z5, z6, z7, h2]) hd hR
theorem retSort {R : Ending → World → Prop} {fn : Func} {k : Nat} (hr : fn.results = #[.cell k 98]) {a : Act} {w : World} {g : Nat} {u0 u1 u2 u3 u4 u5 u6 u7 : Value} (hb : Bx w g #[u0, u1, u2, u3, u4, u5, u6, u7] 98)
  (h2 : a.tmps[k]?.getD undef = .pointer (some ⟨g, 0, none⟩)) (hd : a.defers = []) (hR : R (.returned (.agg #[u0, u1, u2, u3, u4, u5, u6, u7])) w) : bodyPost Tryz.prog fn R .ret a w := by
 have z0 : w.cell? ⟨g, 0, none⟩ = some u0 := hb.cell rfl
 have z1 : w.cell? ⟨g, 1, none⟩ = some u1 := hb.cell rfl
 have z2 : w.cell? ⟨g, 2, none⟩ = some u2 := hb.cell rfl
 have z3 : w.cell? ⟨g, 3, none⟩ = some u3 := hb.cell rfl
 have z4 : w.cell? ⟨g, 4, none⟩ = some u4 := hb.cell rfl
 have z5 : w.cell? ⟨g, 5, none⟩ = some u5 := hb.cell rfl
 have z6 : w.cell? ⟨g, 6, none⟩ = some u6 := hb.cell rfl
 have z7 : w.cell? ⟨g, 7, none⟩ = some u7 := hb.cell rfl
 exact bodyPost_ret (v := .agg #[u0, u1, u2, u3, u4, u5, u6, u7]) (by simp [results, hr, go_sem, z0, z1, z2, z3, z4, z5, z6, z7, h2]) hd hR
theorem retSet {R : Ending → World → Prop} {fn : Func} {k : Nat} (hr : fn.results = #[.cell k 95]) {a : Act} {w : World} {g : Nat} {u0 u1 u2 u3 u4 u5 u6 u7 : Value} (hb : Bx w g #[u0, u1, u2, u3, u4, u5, u6, u7] 95)
  (h2 : a.tmps[k]?.getD undef = .pointer (some ⟨g, 0, none⟩)) (hd : a.defers = []) (hR : R (.returned (.agg #[u0, u1, u2, u3, u4, u5, u6, u7])) w) : bodyPost Tryz.prog fn R .ret a w := by
 have z0 : w.cell? ⟨g, 0, none⟩ = some u0 := hb.cell rfl
 have z1 : w.cell? ⟨g, 1, none⟩ = some u1 := hb.cell rfl
 have z2 : w.cell? ⟨g, 2, none⟩ = some u2 := hb.cell rfl
 have z3 : w.cell? ⟨g, 3, none⟩ = some u3 := hb.cell rfl
 have z4 : w.cell? ⟨g, 4, none⟩ = some u4 := hb.cell rfl
 have z5 : w.cell? ⟨g, 5, none⟩ = some u5 := hb.cell rfl
 have z6 : w.cell? ⟨g, 6, none⟩ = some u6 := hb.cell rfl
 have z7 : w.cell? ⟨g, 7, none⟩ = some u7 := hb.cell rfl
 exact bodyPost_ret (v := .agg #[u0, u1, u2, u3, u4, u5, u6, u7]) (by simp [results, hr, go_sem, z0, z1, z2, z3, z4, z5, z6, z7, h2]) hd hR
theorem retSource {R : Ending → World → Prop} {fn : Func} {k : Nat} (hr : fn.results = #[.cell k 52]) {a : Act} {w : World} {g : Nat} {u0 u1 u2 u3 u4 u5 u6 u7 u8 : Value} (hb : Bx w g #[u0, u1, u2, u3, u4, u5, u6, u7, u8] 52)
  (h2 : a.tmps[k]?.getD undef = .pointer (some ⟨g, 0, none⟩)) (hd : a.defers = []) (hR : R (.returned (.agg #[u0, u1, u2, u3, u4, u5, u6, u7, u8])) w) : bodyPost Tryz.prog fn R .ret a w := by
 have z0 : w.cell? ⟨g, 0, none⟩ = some u0 := hb.cell rfl
 have z1 : w.cell? ⟨g, 1, none⟩ = some u1 := hb.cell rfl
 have z2 : w.cell? ⟨g, 2, none⟩ = some u2 := hb.cell rfl
 have z3 : w.cell? ⟨g, 3, none⟩ = some u3 := hb.cell rfl
 have z4 : w.cell? ⟨g, 4, none⟩ = some u4 := hb.cell rfl
 have z5 : w.cell? ⟨g, 5, none⟩ = some u5 := hb.cell rfl
 have z6 : w.cell? ⟨g, 6, none⟩ = some u6 := hb.cell rfl
 have z7 : w.cell? ⟨g, 7, none⟩ = some u7 := hb.cell rfl
 have z8 : w.cell? ⟨g, 8, none⟩ = some u8 := hb.cell rfl
 exact bodyPost_ret (v := .agg #[u0, u1, u2, u3, u4, u5, u6, u7, u8]) (by simp [results, hr, go_sem, z0, z1, z2, z3, z4, z5, z6, z7, z8, h2]) hd hR
theorem retStmt {R : Ending → World → Prop} {fn : Func} {k : Nat} (hr : fn.results = #[.cell k 34]) {a : Act} {w : World} {g : Nat} {u0 u1 u2 u3 u4 u5 u6 u7 u8 u9 u10 u11 u12 u13 u14 u15 u16 u17 : Value} (hb : Bx w g #[u0, u1, u2, u3, u4, u5, u6, u7, u8, u9, u10, u11, u12, u13, u14, u15, u16, u17] 34)
  (h2 : a.tmps[k]?.getD undef = .pointer (some ⟨g, 0, none⟩)) (hd : a.defers = []) (hR : R (.returned (.agg #[u0, u1, u2, u3, u4, u5, u6, u7, u8, u9, u10, u11, u12, u13, u14, u15, u16, u17])) w) : bodyPost Tryz.prog fn R .ret a w := by
 have z0 : w.cell? ⟨g, 0, none⟩ = some u0 := hb.cell rfl
 have z1 : w.cell? ⟨g, 1, none⟩ = some u1 := hb.cell rfl
 have z2 : w.cell? ⟨g, 2, none⟩ = some u2 := hb.cell rfl
 have z3 : w.cell? ⟨g, 3, none⟩ = some u3 := hb.cell rfl
 have z4 : w.cell? ⟨g, 4, none⟩ = some u4 := hb.cell rfl
 have z5 : w.cell? ⟨g, 5, none⟩ = some u5 := hb.cell rfl
 have z6 : w.cell? ⟨g, 6, none⟩ = some u6 := hb.cell rfl
 have z7 : w.cell? ⟨g, 7, none⟩ = some u7 := hb.cell rfl
 have z8 : w.cell? ⟨g, 8, none⟩ = some u8 := hb.cell rfl
 have z9 : w.cell? ⟨g, 9, none⟩ = some u9 := hb.cell rfl
 have z10 : w.cell? ⟨g, 10, none⟩ = some u10 := hb.cell rfl
 have z11 : w.cell? ⟨g, 11, none⟩ = some u11 := hb.cell rfl
 have z12 : w.cell? ⟨g, 12, none⟩ = some u12 := hb.cell rfl
 have z13 : w.cell? ⟨g, 13, none⟩ = some u13 := hb.cell rfl
 have z14 : w.cell? ⟨g, 14, none⟩ = some u14 := hb.cell rfl
 have z15 : w.cell? ⟨g, 15, none⟩ = some u15 := hb.cell rfl
 have z16 : w.cell? ⟨g, 16, none⟩ = some u16 := hb.cell rfl
 have z17 : w.cell? ⟨g, 17, none⟩ = some u17 := hb.cell rfl
 exact bodyPost_ret (v := .agg #[u0, u1, u2, u3, u4, u5, u6, u7, u8, u9, u10, u11, u12, u13, u14, u15, u16, u17]) (by simp [results, hr, go_sem, z0, z1, z2, z3, z4, z5, z6, z7, z8, z9, z10, z11, z12, z13, z14, z15, z16, z17, h2]) hd hR
end Go.Proofs.YtofnkfjhmjecjaaGreatDoor

namespace Go.Proofs.YtofnkfjhmjecjaaGreatDoor
set_option maxRecDepth 100000
open Go.RowKit Go.Joins Go.ChangeShapes Go.WideShapes
set_option linter.unusedVariables false
set_option linter.unusedSimpArgs false
set_option maxHeartbeats 4000000 in
theorem item_p (n pb : Nat) : PR 110 pb (RE itk) (itemP isN n) := by
 intro w s r h hr
 generalize hP : EndP w pb (RE itk w.heap.size) r = P
 have HP := Lib.hid hP
 have hpb := h.lt
 have hne : ¬ w.heap.size = pb := by omega
 obtain ⟨w1, hw1⟩ : ∃ w1, w.alloc (.cells #[.int .i64 0, .slice none 0 0, .int .i64 0, .int .i64 0, .int .i64 0, .string ⟨#[]⟩, .string ⟨#[]⟩, .string ⟨#[]⟩] 50) = w1 := ⟨_, rfl⟩
 have hb1 := Bx.new w #[.int .i64 0, .slice none 0 0, .int .i64 0, .int .i64 0, .int .i64 0, .string ⟨#[]⟩, .string ⟨#[]⟩, .string ⟨#[]⟩] 50
 have S1 := Lib.hid ((Stp.refl h).alloc (.cells #[.int .i64 0, .slice none 0 0, .int .i64 0, .int .i64 0, .int .i64 0, .string ⟨#[]⟩, .string ⟨#[]⟩, .string ⟨#[]⟩] 50))
 have hz1 : w1.heap.size = w.heap.size + 1 := by rw [← hw1]; simp
 rw [hw1] at hb1 S1
 have HB1 := Lib.hid hb1
 have HZ1 := Lib.hid hz1
 have HR := Lib.hid hr
 unfold itemP at HR
 clear hP h hr hb1 hz1
 go_enter Tryz.func110, Tryz.ntmps110
 go_wp2_with (first | (go_at_call 116; rcases bind_call HR.out with ⟨c, hx, rfl⟩ | ⟨aa, sa, hx, hrr⟩; refine (whole_p n pb _ _ _ S1.out.ps hx).mono ?_; rintro e w2 ⟨ff, rfl⟩; exact ⟨rfl, by rw [← HP.out]; exact ⟨S1.out.fr.trans ff (New.refl _ _), rfl⟩⟩; refine (whole_p n pb _ _ _ S1.out.ps hx).mono ?_; rintro e w2 ⟨ff, v, rfl, hv, pp⟩; obtain ⟨x, rfl, hxe, mx⟩ := hv; have S2 := Lib.hid (S1.out.trans ⟨ff, pp⟩); have HR2 := Lib.hid hrr; have HB2 := Lib.hid (HB1.out.frm ff hne); have HX := Lib.hid (And.intro hxe (XE.mem_up S1.out.fr.size mx)); have HXS := Lib.hid (And.intro S1.out.fr.size mx); obtain ⟨op, kind, num, scale, text, qual, a, cap, args⟩ := x; unfold XE.val; clear hxe mx; clear pp hrr hx HR) | (go_at_call 171; rcases bind_call HR2.out with ⟨c, hx, rfl⟩ | ⟨aa, sa, hx, hrr⟩; refine (alias_p pb _ _ _ S2.out.ps hx).mono ?_; rintro e w3 ⟨ff, rfl⟩; exact ⟨rfl, by rw [← HP.out]; exact ⟨S2.out.fr.trans ff (New.refl _ _), rfl⟩⟩; refine (alias_p pb _ _ _ S2.out.ps hx).mono ?_; rintro e w3 ⟨ff, v, rfl, hv, pp⟩; have hv2 : v = .string (strB aa) := hv; subst hv2; have S3 := Lib.hid (S2.out.trans ⟨ff, pp⟩); have HR3 := Lib.hid hrr; have HB3 := Lib.hid (HB2.out.frm ff hne); obtain ⟨⟨x0, x1, x2, x3, x4, x5, x6, x7⟩, z0, z1, z2, z3, z4, z5, z6, z7⟩ := (HB3.out).n8; have MX := Lib.hid (XE.Mem.frm ff (fun k hk e => by have := HZ1.out; have : w1.heap.size ≤ k := hk; omega) _ HXS.out.2); clear hv; clear pp hrr hx HR2))
 have hrc := ret_ok HR3.out
 have HFI := fin_E itk S3.out hpb HB3.out rfl (XE.mk op kind num scale text qual a cap args, aa) (XE.Mem.mono (fun k hk => by have := HZ1.out; have : w1.heap.size ≤ k := hk; show _ < _; omega) _ MX.out)
 have he : r = .ok (itk.er (XE.mk op kind num scale text qual a cap args, aa), sa) := by rw [hrc, ← HX.out.1]; rfl
 exact retItem Tryz.results110 HFI.1 rfl rfl (by rw [← HP.out, he]; exact HFI.2)
set_option maxHeartbeats 4000000 in
theorem source_p (pb : Nat) : PR 172 pb (RE sok) (sourceP isN) := by
 intro w s r h hr
 generalize hP : EndP w pb (RE sok w.heap.size) r = P
 have HP := Lib.hid hP
 have hpb := h.lt
 have hne : ¬ w.heap.size = pb := by omega
 obtain ⟨w1, hw1⟩ : ∃ w1, w.alloc (.cells #[.string ⟨#[]⟩, .string ⟨#[]⟩, .int .i64 0, .slice none 0 0, .int .i64 0, .int .i64 0, .int .i64 0, .string ⟨#[]⟩, .string ⟨#[]⟩] 52) = w1 := ⟨_, rfl⟩
 have hb1 := Bx.new w #[.string ⟨#[]⟩, .string ⟨#[]⟩, .int .i64 0, .slice none 0 0, .int .i64 0, .int .i64 0, .int .i64 0, .string ⟨#[]⟩, .string ⟨#[]⟩] 52
 have S1 := Lib.hid ((Stp.refl h).alloc (.cells #[.string ⟨#[]⟩, .string ⟨#[]⟩, .int .i64 0, .slice none 0 0, .int .i64 0, .int .i64 0, .int .i64 0, .string ⟨#[]⟩, .string ⟨#[]⟩] 52))
 have hz1 : w1.heap.size = w.heap.size + 1 := by rw [← hw1]; simp
 rw [hw1] at hb1 S1
 have HB1 := Lib.hid hb1
 have HZ1 := Lib.hid hz1
 have HR := Lib.hid hr
 unfold sourceP at HR
 clear hP h hr hb1 hz1
 go_enter Tryz.func172, Tryz.ntmps172
 go_wp2_with (first | (go_at_call 45; rcases bind_call HR.out with ⟨c, hx, rfl⟩ | ⟨aa, sa, hx, hrr⟩; refine (name_p S1.out.ps hx).mono ?_; rintro e w2 ⟨ff, rfl⟩; exact ⟨rfl, by rw [← HP.out]; exact ⟨S1.out.fr.trans ff (New.refl _ _), rfl⟩⟩; refine (name_p S1.out.ps hx).mono ?_; rintro e w2 ⟨ff, v, rfl, hv, pp⟩; obtain ⟨tb, htb⟩ : ∃ tb, tb = aa := ⟨_, rfl⟩; subst htb; have hv2 : v = .string (strB tb) := hv; subst hv2; have S2 := Lib.hid (S1.out.trans ⟨ff, pp⟩); have HR2 := Lib.hid hrr; have HB2 := Lib.hid (HB1.out.frm ff hne); clear hv; clear pp hrr hx HR) | (go_at_call 171; rcases bind_call HR2.out with ⟨c, hx, rfl⟩ | ⟨aa, sa, hx, hrr⟩; refine (alias_p pb _ _ _ S2.out.ps hx).mono ?_; rintro e w3 ⟨ff, rfl⟩; exact ⟨rfl, by rw [← HP.out]; exact ⟨S2.out.fr.trans ff (New.refl _ _), rfl⟩⟩; refine (alias_p pb _ _ _ S2.out.ps hx).mono ?_; rintro e w3 ⟨ff, v, rfl, hv, pp⟩; have hv2 : v = .string (strB aa) := hv; subst hv2; have S3 := Lib.hid (S2.out.trans ⟨ff, pp⟩); have HR3 := Lib.hid hrr; have HB3 := Lib.hid (HB2.out.frm ff hne); obtain ⟨⟨x0, x1, x2, x3, x4, x5, x6, x7, x8⟩, z0, z1, z2, z3, z4, z5, z6, z7, z8⟩ := (HB3.out).n9; clear hv; clear pp hrr hx HR2))
 have hrc := ret_ok HR3.out
 have HFI := fin_E sok S3.out hpb HB3.out rfl (tb, aa, XE.mk 0 0 0 0 ⟨#[]⟩ ⟨#[]⟩ none 0 []) (XE.Mem.leaf (fun k => w.heap.size < k) w3 0 0 0 0 ⟨#[]⟩ ⟨#[]⟩)
 have he : r = .ok (sok.er (tb, aa, XE.mk 0 0 0 0 ⟨#[]⟩ ⟨#[]⟩ none 0 []), sa) := by rw [hrc]; simp [sok, XE.er, XE.erL, zE]
 exact retSource Tryz.results172 HFI.1 rfl rfl (by rw [← HP.out, he]; exact HFI.2)
set_option maxHeartbeats 4000000 in
theorem sort_p (n pb : Nat) : PR 113 pb (RE srk) (sortP isN n) := by
 intro w s r h hr
 generalize hP : EndP w pb (RE srk w.heap.size) r = P
 have HP := Lib.hid hP
 have hpb := h.lt
 have hne : ¬ w.heap.size = pb := by omega
 obtain ⟨w1, hw1⟩ : ∃ w1, w.alloc (.cells #[.int .i64 0, .slice none 0 0, .int .i64 0, .int .i64 0, .int .i64 0, .string ⟨#[]⟩, .string ⟨#[]⟩, .bool false] 98) = w1 := ⟨_, rfl⟩
 have hb1 := Bx.new w #[.int .i64 0, .slice none 0 0, .int .i64 0, .int .i64 0, .int .i64 0, .string ⟨#[]⟩, .string ⟨#[]⟩, .bool false] 98
 have S1 := Lib.hid ((Stp.refl h).alloc (.cells #[.int .i64 0, .slice none 0 0, .int .i64 0, .int .i64 0, .int .i64 0, .string ⟨#[]⟩, .string ⟨#[]⟩, .bool false] 98))
 have hz1 : w1.heap.size = w.heap.size + 1 := by rw [← hw1]; simp
 rw [hw1] at hb1 S1
 have HB1 := Lib.hid hb1
 have HZ1 := Lib.hid hz1
 have HR := Lib.hid hr
 unfold sortP at HR
 clear hP h hr hb1 hz1
 go_enter Tryz.func113, Tryz.ntmps113
 go_wp2_with (first | (go_at_call 116; rcases bind_call HR.out with ⟨c, hx, rfl⟩ | ⟨aa, sa, hx, hrr⟩; refine (whole_p n pb _ _ _ S1.out.ps hx).mono ?_; rintro e w2 ⟨ff, rfl⟩; exact ⟨rfl, by rw [← HP.out]; exact ⟨S1.out.fr.trans ff (New.refl _ _), rfl⟩⟩; refine (whole_p n pb _ _ _ S1.out.ps hx).mono ?_; rintro e w2 ⟨ff, v, rfl, hv, pp⟩; obtain ⟨x, rfl, hxe, mx⟩ := hv; have S2 := Lib.hid (S1.out.trans ⟨ff, pp⟩); have HR2 := Lib.hid hrr; have HB2 := Lib.hid (HB1.out.frm ff hne); have HX := Lib.hid (And.intro hxe (XE.mem_up S1.out.fr.size mx)); have HXS := Lib.hid (And.intro S1.out.fr.size mx); obtain ⟨op, kind, num, scale, text, qual, a, cap, args⟩ := x; unfold XE.val; clear hxe mx; clear pp hrr hx HR) | (go_at_call 38; refine (found_q S2.out.ps zqdesc (by decide)).mono ?_; rintro e w3 ⟨rfl, ss⟩; have S3 := Lib.hid (S2.out.trans ss); have HB3 := Lib.hid (HB2.out.frm ss.fr hne); obtain ⟨⟨x0, x1, x2, x3, x4, x5, x6, x7⟩, z0, z1, z2, z3, z4, z5, z6, z7⟩ := (HB3.out).n8; have MX := Lib.hid (XE.Mem.frm ss.fr (fun k hk e => by have := HZ1.out; have : w1.heap.size ≤ k := hk; omega) _ HXS.out.2); clear ss))
 have hrc := ret_ok HR2.out
 have HFI := fin_E srk S3.out hpb HB3.out rfl (XE.mk op kind num scale text qual a cap args, atP wDesc sa) (XE.Mem.mono (fun k hk => by have := HZ1.out; have : w1.heap.size ≤ k := hk; show _ < _; omega) _ MX.out)
 have he : r = .ok (srk.er (XE.mk op kind num scale text qual a cap args, atP wDesc sa), (gotP wDesc sa).2) := by
  rw [hrc, ← HX.out.1]
  have : (gotP wDesc sa).1 = atP wDesc sa := by unfold gotP; cases atP wDesc sa <;> rfl
  rw [this]
  rfl
 exact retSort Tryz.results113 HFI.1 rfl rfl (by rw [← HP.out, he]; exact HFI.2)
end Go.Proofs.YtofnkfjhmjecjaaGreatDoor

namespace Go.Proofs.YtofnkfjhmjecjaaGreatDoor
set_option maxRecDepth 100000
open Go.RowKit Go.Joins Go.ChangeShapes Go.WideShapes
set_option linter.unusedVariables false
set_option linter.unusedSimpArgs false
theorem Stp.stL {w w' : World} {pb : Nat} {s : PS} (h : Stp w w' pb s) {g : Nat} (hg : w.heap.size ≤ g) (hp : pb < g) (l : List Value) (o : Nat) : Stp w (stL w' g o l) pb s :=
 ⟨stL_frm (.inr hg) l o h.fr, h.ps.frm (F := fun k => k = g) (stL_frm (F := fun k => k = g) (.inl rfl) l o (Frm.refl _ w')) (fun k hk e => by omega)⟩
theorem stL_one (w : World) (g o : Nat) (l : List Value) : Frm (fun k => k = g) w (stL w g o l) := stL_frm (F := fun k => k = g) (.inl rfl) l o (Frm.refl _ w)
set_option maxHeartbeats 4000000 in
theorem set_p (n pb : Nat) : PR 115 pb (RE sek) (setP isN n) := by
 intro w s r h hr
 generalize hP : EndP w pb (RE sek w.heap.size) r = P
 have HP := Lib.hid hP
 have hpb := h.lt
 have hne : ¬ w.heap.size = pb := by omega
 obtain ⟨w1, hw1⟩ : ∃ w1, w.alloc (.cells #[.string ⟨#[]⟩, .int .i64 0, .slice none 0 0, .int .i64 0, .int .i64 0, .int .i64 0, .string ⟨#[]⟩, .string ⟨#[]⟩] 95) = w1 := ⟨_, rfl⟩
 have hb1 := Bx.new w #[.string ⟨#[]⟩, .int .i64 0, .slice none 0 0, .int .i64 0, .int .i64 0, .int .i64 0, .string ⟨#[]⟩, .string ⟨#[]⟩] 95
 have S1 := Lib.hid ((Stp.refl h).alloc (.cells #[.string ⟨#[]⟩, .int .i64 0, .slice none 0 0, .int .i64 0, .int .i64 0, .int .i64 0, .string ⟨#[]⟩, .string ⟨#[]⟩] 95))
 have hz1 : w1.heap.size = w.heap.size + 1 := by rw [← hw1]; simp
 rw [hw1] at hb1 S1
 have HB1 := Lib.hid hb1
 have HZ1 := Lib.hid hz1
 have HR := Lib.hid hr
 unfold setP at HR
 clear hP h hr hb1 hz1
 go_enter Tryz.func115, Tryz.ntmps115
 go_wp2_with (first | (go_at_call 45; rcases bind_call HR.out with ⟨c, hx, rfl⟩ | ⟨aa, sa, hx, hrr⟩; refine (name_p S1.out.ps hx).mono ?_; rintro e w2 ⟨ff, rfl⟩; exact ⟨rfl, by rw [← HP.out]; exact ⟨S1.out.fr.trans ff (New.refl _ _), rfl⟩⟩; refine (name_p S1.out.ps hx).mono ?_; rintro e w2 ⟨ff, v, rfl, hv, pp⟩; obtain ⟨tb, htb⟩ : ∃ tb, tb = aa := ⟨_, rfl⟩; subst htb; have hv2 : v = .string (strB tb) := hv; subst hv2; have S2 := Lib.hid (S1.out.trans ⟨ff, pp⟩); have HR2 := Lib.hid hrr; have HB2 := Lib.hid ((HB1.out.frm ff hne).below ((Below.refl _ _).alloc (Nat.le_refl _) (.cells #[.string (strB tb), .int .i64 0, .slice none 0 0, .int .i64 0, .int .i64 0, .int .i64 0, .string ⟨#[]⟩, .string ⟨#[]⟩] 95))); have S2a := Lib.hid (S2.out.alloc (.cells #[.string (strB tb), .int .i64 0, .slice none 0 0, .int .i64 0, .int .i64 0, .int .i64 0, .string ⟨#[]⟩, .string ⟨#[]⟩] 95)); have LB := Lib.hid (Bx.new w2 #[.string (strB tb), .int .i64 0, .slice none 0 0, .int .i64 0, .int .i64 0, .int .i64 0, .string ⟨#[]⟩, .string ⟨#[]⟩] 95); have g1 : ¬ w2.heap.size = w.heap.size := (by have := ff.size; have := HZ1.out; omega); have g2 : ¬ w.heap.size = w2.heap.size := fun e => g1 e.symm; have g3 : ¬ w2.heap.size = pb := (by have := S2.out.fr.size; omega); clear hv; clear pp hrr hx HR) | (go_at_call 44; rcases need_bind HR2.out with ⟨ha, rfl⟩ | ⟨ha, hrr⟩; refine (need_g S2a.out.ps zqEq (by decide) (by first | rfl | simp | assumption)).mono ?_; rintro e w4 hn; obtain ⟨rfl, ff⟩ := hn.2 ha; exact ⟨rfl, by rw [← HP.out]; exact ⟨S2a.out.fr.trans ff (New.refl _ _), rfl⟩⟩; refine (need_g S2a.out.ps zqEq (by decide) (by first | rfl | simp | assumption)).mono ?_; rintro e w4 hn; obtain ⟨rfl, ss⟩ := hn.1 ha; have S4 := Lib.hid (S2a.out.trans ss); have HR4 := Lib.hid hrr; have HB4 := Lib.hid (HB2.out.frm ss.fr hne); have LB4 := Lib.hid (LB.out.frm ss.fr g3); have h24 : w2.heap.size < w4.heap.size := LB4.out.lt; clear ss hn hrr ha HR2) | (go_at_call 116; rcases bind_call HR4.out with ⟨c, hx, rfl⟩ | ⟨aa, sa, hx, hrr⟩; refine (whole_p n pb _ _ _ S4.out.ps hx).mono ?_; rintro e w5 ⟨ff, rfl⟩; exact ⟨rfl, by rw [← HP.out]; exact ⟨S4.out.fr.trans ff (New.refl _ _), rfl⟩⟩; refine (whole_p n pb _ _ _ S4.out.ps hx).mono ?_; rintro e w5 ⟨ff, v, rfl, hv, pp⟩; obtain ⟨x, rfl, hxe, mx⟩ := hv; have S5 := Lib.hid (S4.out.trans ⟨ff, pp⟩); have HR5 := Lib.hid hrr; have HB5 := Lib.hid (HB4.out.frm ff hne); have LB5 := Lib.hid (LB4.out.frm ff g3); obtain ⟨⟨q0, q1, q2, q3, q4, q5, q6, q7⟩, y0, y1, y2, y3, y4, y5, y6, y7⟩ := LB5.out.n8; obtain ⟨⟨x0, x1, x2, x3, x4, x5, x6, x7⟩, z0, z1, z2, z3, z4, z5, z6, z7⟩ := (HB5.out).n8; have HX := Lib.hid (And.intro hxe mx); obtain ⟨op, kind, num, scale, text, qual, a, cap, args⟩ := x; unfold XE.val; clear hxe mx; clear pp hrr hx HR4))
 have hrc := ret_ok HR5.out
 have f5 := stL_one w5 w2.heap.size 1 (XE.enc (XE.mk op kind num scale text qual a cap args))
 have hs2 := S2.out.fr.size
 have h24 : w2.heap.size < w4.heap.size := LB4.out.lt
 have HFI := fin_E sek (S5.out.stL (g := w2.heap.size) hs2 (by omega) (XE.enc (XE.mk op kind num scale text qual a cap args)) 1) hpb (HB5.out.frm f5 g2) rfl (tb, XE.mk op kind num scale text qual a cap args)
  (XE.Mem.mono (fun k hk => by have : w4.heap.size ≤ k := hk; show _ < _; omega) _ (XE.Mem.frm f5 (fun k hk e => by have : w4.heap.size ≤ k := hk; omega) _ HX.out.2))
 have he : r = .ok (sek.er (tb, XE.mk op kind num scale text qual a cap args), sa) := by rw [hrc, ← HX.out.1]; rfl
 exact retSet Tryz.results115 HFI.1 rfl rfl (by rw [← HP.out, he]; exact HFI.2)
set_option maxHeartbeats 4000000 in
theorem column_p (pb : Nat) : PR 105 pb (RE cok) (colP isN) := by
 intro w s r h hr
 generalize hP : EndP w pb (RE cok w.heap.size) r = P
 have HP := Lib.hid hP
 have hpb := h.lt
 have hne : ¬ w.heap.size = pb := by omega
 obtain ⟨w1, hw1⟩ : ∃ w1, w.alloc (.cells #[.string ⟨#[]⟩, .int .i64 0, .bool false] 74) = w1 := ⟨_, rfl⟩
 have hb1 := Bx.new w #[.string ⟨#[]⟩, .int .i64 0, .bool false] 74
 have S1 := Lib.hid ((Stp.refl h).alloc (.cells #[.string ⟨#[]⟩, .int .i64 0, .bool false] 74))
 have hz1 : w1.heap.size = w.heap.size + 1 := by rw [← hw1]; simp
 rw [hw1] at hb1 S1
 have HB1 := Lib.hid hb1
 have HZ1 := Lib.hid hz1
 have HR := Lib.hid hr
 unfold colP at HR
 clear hP h hr hb1 hz1
 go_enter Tryz.func105, Tryz.ntmps105
 go_wp2_with (first | (go_at_call 45; rcases bind_call HR.out with ⟨c, hx, rfl⟩ | ⟨aa, sa, hx, hrr⟩; refine (name_p S1.out.ps hx).mono ?_; rintro e w2 ⟨ff, rfl⟩; exact ⟨rfl, by rw [← HP.out]; exact ⟨S1.out.fr.trans ff (New.refl _ _), rfl⟩⟩; refine (name_p S1.out.ps hx).mono ?_; rintro e w2 ⟨ff, v, rfl, hv, pp⟩; obtain ⟨tb, htb⟩ : ∃ tb, tb = aa := ⟨_, rfl⟩; subst htb; have hv2 : v = .string (strB tb) := hv; subst hv2; have S2 := Lib.hid (S1.out.trans ⟨ff, pp⟩); have HR2 := Lib.hid hrr; have HB2 := Lib.hid (HB1.out.frm ff hne); clear hv; clear pp hrr hx HR) | (go_at_call 168; rcases bind_call HR2.out with ⟨c, hx, rfl⟩ | ⟨aa, sa, hx, hrr⟩; refine (type_p pb _ _ _ S2.out.ps hx).mono ?_; rintro e w3 ⟨ff, rfl⟩; exact ⟨rfl, by rw [← HP.out]; exact ⟨S2.out.fr.trans ff (New.refl _ _), rfl⟩⟩; refine (type_p pb _ _ _ S2.out.ps hx).mono ?_; rintro e w3 ⟨ff, v, rfl, hv, pp⟩; obtain ⟨kt, hkt⟩ : ∃ kt, kt = aa := ⟨_, rfl⟩; subst hkt; obtain ⟨s3, hs3⟩ : ∃ s3, s3 = sa := ⟨_, rfl⟩; subst hs3; have hv2 : v = .int .i64 (kt : Int) := hv; subst hv2; have S3 := Lib.hid (S2.out.trans ⟨ff, pp⟩); have HR3 := Lib.hid hrr; have HB3 := Lib.hid ((HB2.out.frm ff hne).below ((Below.refl _ _).alloc (Nat.le_refl _) (.cells #[.string (strB tb), .int .i64 (kt : Int), .bool false] 74))); have S3a := Lib.hid (S3.out.alloc (.cells #[.string (strB tb), .int .i64 (kt : Int), .bool false] 74)); have LB := Lib.hid (Bx.new w3 #[.string (strB tb), .int .i64 (kt : Int), .bool false] 74); have g1 : ¬ w3.heap.size = w.heap.size := (by have := ff.size; have := S2.out.fr.size; have := HB2.out.lt; omega); have g2 : ¬ w.heap.size = w3.heap.size := fun e => g1 e.symm; have g3 : ¬ w3.heap.size = pb := (by have := S3.out.fr.size; omega); clear hv; clear pp hrr hx HR2))
 cases hc : atP wNot s3 with
 | true =>
  have hR := HR3.out
  rw [if_pos hc] at hR
  have HR4 := Lib.hid hR
  clear hR HR3
  go_wp2_with (first | (go_at_call 38; refine (found_yes S3a.out.ps qnot (by decide) hc).mono ?_; rintro e w4 ⟨rfl, ss⟩; have S4 := Lib.hid (S3a.out.trans ss); have HB4 := Lib.hid (HB3.out.frm ss.fr hne); have LB4 := Lib.hid (LB.out.frm ss.fr g3); clear ss) | (go_at_call 44; rcases need_bind HR4.out with ⟨ha, rfl⟩ | ⟨ha, hrr⟩; refine (need_g S4.out.ps zqnull (by decide) (by first | rfl | simp | assumption)).mono ?_; rintro e w5 hn; obtain ⟨rfl, ff⟩ := hn.2 ha; exact ⟨rfl, by rw [← HP.out]; exact ⟨S4.out.fr.trans ff (New.refl _ _), rfl⟩⟩; refine (need_g S4.out.ps zqnull (by decide) (by first | rfl | simp | assumption)).mono ?_; rintro e w5 hn; obtain ⟨rfl, ss⟩ := hn.1 ha; have S5 := Lib.hid (S4.out.trans ss); have HR5 := Lib.hid hrr; have HB5 := Lib.hid (HB4.out.frm ss.fr hne); have LB5 := Lib.hid (LB4.out.frm ss.fr g3); obtain ⟨⟨q0, q1, q2⟩, y0, y1, y2⟩ := (LB5.out).n3; obtain ⟨⟨x0, x1, x2⟩, z0, z1, z2⟩ := (HB5.out).n3; clear ss hn hrr ha HR4))
  have hrc := ret_ok HR5.out
  have f5 := stL_one w5 w3.heap.size 2 [.bool true]
  have HFI := fin_E cok (S5.out.stL (g := w3.heap.size) S3.out.fr.size (by have := S3.out.fr.size; omega) [.bool true] 2) hpb (HB5.out.frm f5 g2) rfl (Co.mk tb kt true) trivial
  exact retColumn Tryz.results105 HFI.1 rfl rfl (by rw [← HP.out, hrc]; exact HFI.2)
 | false =>
  have hR := HR3.out
  rw [if_neg (by rw [hc]; decide)] at hR
  have HR4 := Lib.hid hR
  clear hR HR3
  go_wp2_with (first | (go_at_call 38; refine (found_no S3a.out.ps qnot (by decide) hc).mono ?_; rintro e w4 ⟨rfl, ss⟩; have S4 := Lib.hid (S3a.out.trans ss); have HB4 := Lib.hid (HB3.out.frm ss.fr hne); have LB4 := Lib.hid (LB.out.frm ss.fr g3); obtain ⟨⟨q0, q1, q2⟩, y0, y1, y2⟩ := (LB4.out).n3; obtain ⟨⟨x0, x1, x2⟩, z0, z1, z2⟩ := (HB4.out).n3; clear ss))
  have hrc := ret_ok HR4.out
  have HFI := fin_E cok S4.out hpb HB4.out rfl (Co.mk tb kt false) trivial
  exact retColumn Tryz.results105 HFI.1 rfl rfl (by rw [← HP.out, hrc]; exact HFI.2)
end Go.Proofs.YtofnkfjhmjecjaaGreatDoor
