/-
  Texts of mine put together, in build order.
  Conditions: as each declaration says.
-/
import Derived.Shelf.Sort.Plain
import Derived.Shelf.Slices.In.SortNone
import Derived.Shelf.Slices.CompactS
import Derived.Shelf.Slices.CompactI
import Derived.Shelf.SlIter.Nil
import Derived.Shelf.SlIterI.Nil
import Derived.Test.YtelfinhpjokmdaaGreatDoorZn2
namespace Go.Proofs.YtelfinhpjokmdaaGreatDoor
set_option maxRecDepth 100000
set_option linter.unusedVariables false
set_option linter.unusedSectionVars false
set_option linter.unnecessarySimpa false
set_option linter.unusedSimpArgs false

section
variable {R : Type} [DecidableEq R] (O : OrdR R) (M : Mds)
/-- what stays true while wishes are granted -/
structure BasL (T : TbL R) : Prop where
  srt : SrtL O T.hv
  rt : ∀ h ∈ T.hv, M.right h.mode = true
  cl : Clean M T.hv
  one : One T.wt
  wr : ∀ w ∈ T.wt, M.right w.l.mode = true
  ch : ∀ w ∈ T.wt, (w.ch = true ↔ mdO T.hv w.l.txn w.l.res ≠ 0)
  cv : ∀ w ∈ T.wt, mdO T.hv w.l.txn w.l.res ≠ 0 → M.cv w.l.mode (mdO T.hv w.l.txn w.l.res) = true
/-- the head of a thing's queue is barred -/
def BarL (T : TbL R) (s : R) : Prop := ∀ l q, que T.wt s = l :: q → can M T.hv l = false
theorem InvL.bas {T : TbL R} (h : InvL O M T) : BasL O M T := ⟨h.srt, h.rt, h.cl, h.one, h.wr, h.ch, h.cv⟩
theorem BasL.inv {T : TbL R} (h : BasL O M T) (hb : ∀ s, BarL M T s) : InvL O M T := ⟨h.srt, h.rt, h.cl, h.one, h.wr, h.ch, h.cv, fun s l q hq => hb s l q hq⟩
theorem BasL.nz {T : TbL R} (h : BasL O M T) : ∀ x ∈ T.hv, x.mode ≠ 0 := fun x hx => M.pos _ (h.rt x hx)
theorem mem_fgt {W : List (Ws R)} {t : Int} {w : Ws R} : w ∈ fgt W t ↔ w ∈ W ∧ w.l.txn ≠ t := by
  unfold fgt
  rw [List.mem_filter]
  simp
/-- the first of a queue granted -/
theorem BasL.grant {T : TbL R} (h : BasL O M T) {s : R} {l : Lk R} {q : List (Lk R)} (hq : que T.wt s = l :: q) (hc : can M T.hv l = true) : BasL O M ⟨gv O l T.hv, fgt T.wt l.txn⟩ := by
  obtain ⟨hr, w, hw, rfl⟩ := mem_que.1 (show l ∈ que T.wt s by rw [hq]; exact List.mem_cons_self ..)
  have hm := h.wr w hw
  have hmd : ∀ u ∈ fgt T.wt w.l.txn, mdO (gv O w.l T.hv) u.l.txn u.l.res = mdO T.hv u.l.txn u.l.res := fun u hu => by
    rw [mdO_gv O h.srt w.l (M.pos _ hm) h.nz, if_neg (fun e => (mem_fgt.1 hu).2 e.1.symm)]
  refine ⟨srt_gv O h.srt, fun x hx => ?_, Clean.gv O M h.srt h.cl hc, h.one.fgt _, fun u hu => h.wr u (mem_fgt.1 hu).1, fun u hu => ?_, fun u hu => ?_⟩
  · rcases (mem_gv O h.srt).1 hx with e | ⟨e, _⟩
    · rw [e]; exact hm
    · exact h.rt x e
  · rw [hmd u hu]; exact h.ch u (mem_fgt.1 hu).1
  · rw [hmd u hu]; exact h.cv u (mem_fgt.1 hu).1
theorem BasL.bar_grant {T : TbL R} (h : BasL O M T) {s s' : R} {l : Lk R} {q : List (Lk R)} (hq : que T.wt s = l :: q) (hn : s' ≠ s) (hb : BarL M T s') : BarL M ⟨gv O l T.hv, fgt T.wt l.txn⟩ s' := by
  obtain ⟨hr, w, hw, rfl⟩ := mem_que.1 (show l ∈ que T.wt s by rw [hq]; exact List.mem_cons_self ..)
  intro x r hx
  have hx' : que (fgt T.wt w.l.txn) s' = x :: r := hx
  rw [que_other h.one (fun u hu e => by rw [One.eq h.one hu hw e, hr]; exact hn.symm)] at hx'
  have hxr := (mem_que.1 (show x ∈ que T.wt s' by rw [hx']; exact List.mem_cons_self ..)).1
  have := hb x r hx'
  show can M (gv O w.l T.hv) x = false
  rw [can_other O M h.srt (by rw [hr, hxr]; exact hn.symm)]
  exact this
theorem stl_inv (s : R) (Z : R → Prop) : ∀ (q : List (Lk R)) (T : TbL R) (out : List Int), BasL O M T → que T.wt s = q → (∀ s', s' ≠ s → ¬ Z s' → BarL M T s') →
    BasL O M (stl O M q T out).1 ∧ BarL M (stl O M q T out).1 s ∧ ∀ s', s' ≠ s → ¬ Z s' → BarL M (stl O M q T out).1 s'
  | [], T, out, h, hq, hb => ⟨h, (by intro l q e; have e' : que T.wt s = l :: q := e; rw [hq] at e'; cases e'), hb⟩
  | l :: q, T, out, h, hq, hb => by
    unfold stl
    by_cases c : can M T.hv l = true
    · rw [if_pos c]
      exact stl_inv s Z q _ _ (h.grant O M hq c) (que_head h.one hq) fun s' hn hz => h.bar_grant O M hq hn (hb s' hn hz)
    · rw [if_neg c]
      refine ⟨h, fun x r e => ?_, hb⟩
      have e' : que T.wt s = x :: r := e
      rw [hq] at e'
      injection e' with e1 e2
      rw [← e1]
      exact Bool.eq_false_iff.2 c
theorem fold_inv : ∀ (ths : List R) (T : TbL R) (out : List Int), BasL O M T → (∀ s, s ∉ ths → BarL M T s) →
    BasL O M (ths.foldl (fun p s => stl O M (que p.1.wt s) p.1 p.2) (T, out)).1 ∧ ∀ s, BarL M (ths.foldl (fun p s => stl O M (que p.1.wt s) p.1 p.2) (T, out)).1 s
  | [], T, out, h, hb => ⟨h, fun s => hb s (by simp)⟩
  | s :: r, T, out, h, hb => by
    rw [List.foldl_cons]
    obtain ⟨g1, g2, g3⟩ := stl_inv O M s (· ∈ r) (que T.wt s) T out h rfl (fun s' hn hz => hb s' (by simp [hn, hz]))
    exact fold_inv r _ _ g1 fun s' hs' => by
      by_cases e : s' = s
      · rw [e]; exact g2
      · exact g3 s' e hs'
theorem wsh_some {W : List (Ws R)} {t : Int} {l : Lk R} (h : wsh W t = some l) : ∃ w ∈ W, w.l = l ∧ l.txn = t := by
  unfold wsh at h
  rw [Option.map_eq_some_iff] at h
  obtain ⟨w, hw, rfl⟩ := h
  exact ⟨w, List.mem_of_find?_eq_some hw, rfl, by simpa using List.find?_some hw⟩
theorem wsh_of {W : List (Ws R)} (h : One W) {w : Ws R} (hw : w ∈ W) : wsh W w.l.txn = some w.l := by
  cases hs : wsh W w.l.txn with
  | none => exact absurd rfl (wsh_none (t := w.l.txn) (by rw [hs]; simp) w hw)
  | some l =>
    obtain ⟨u, hu, rfl, he⟩ := wsh_some hs
    rw [One.eq h hu hw he]
theorem mem_insR {s x : R} : ∀ {l : List R}, x ∈ insR O s l ↔ x = s ∨ x ∈ l
  | [] => by simp [insR]
  | y :: l => by
    have ih := mem_insR (s := s) (x := x) (l := l)
    unfold insR
    split
    · simp
    · rw [List.mem_cons, ih, List.mem_cons]
      constructor
      · rintro (e | e | e)
        · exact .inr (.inl e)
        · exact .inl e
        · exact .inr (.inr e)
      · rintro (e | e | e)
        · exact .inr (.inl e)
        · exact .inl e
        · exact .inr (.inr e)
theorem mem_thg {T : TbL R} (h1 : One T.wt) {t : Int} {s : R} : s ∈ thg O T t ↔ (∃ h ∈ T.hv, h.txn = t ∧ h.res = s) ∨ ∃ w ∈ T.wt, w.l.txn = t ∧ w.l.res = s := by
  have base : s ∈ (T.hv.filter fun h => decide (h.txn = t)).map (fun h => h.res) ↔ ∃ h ∈ T.hv, h.txn = t ∧ h.res = s := by
    rw [List.mem_map]
    constructor
    · rintro ⟨h, hh, e⟩
      obtain ⟨a, b⟩ := List.mem_filter.1 hh
      exact ⟨h, a, by simpa using b, e⟩
    · rintro ⟨h, hh, a, e⟩
      exact ⟨h, List.mem_filter.2 ⟨hh, by simpa using a⟩, e⟩
  unfold thg
  cases hw : wsh T.wt t with
  | none =>
    simp only
    rw [base]
    constructor
    · exact .inl
    · rintro (h | ⟨w, hwm, e, _⟩)
      · exact h
      · have := wsh_of h1 hwm
        rw [e, hw] at this
        cases this
  | some l =>
    obtain ⟨w, hwm, e, ht⟩ := wsh_some hw
    simp only
    have hwo : (∃ u ∈ T.wt, u.l.txn = t ∧ u.l.res = s) ↔ s = l.res := by
      constructor
      · rintro ⟨u, hu, g1, g2⟩
        have := wsh_of h1 hu
        rw [g1, hw] at this
        injection this with this
        rw [this]; exact g2.symm
      · intro g
        exact ⟨w, hwm, by rw [e]; exact ht, by rw [e, g]⟩
    rw [hwo]
    by_cases z : mdO T.hv t l.res = 0
    · rw [if_pos z, mem_insR, base]
      exact or_comm
    · rw [if_neg z, base]
      constructor
      · exact .inl
      · rintro (g | g)
        · exact g
        · exact ⟨_, mdO_mem z, rfl, g.symm⟩
theorem mdO_out (t : Int) {H : List (Lk R)} {u : Int} {s : R} (h : u ≠ t) : mdO (H.filter fun h => !decide (h.txn = t)) u s = mdO H u s := by
  induction H with
  | nil => rfl
  | cons x r ih =>
    by_cases c : x.txn = t
    · rw [List.filter_cons_of_neg (by simpa using c), ih]
      conv => rhs; unfold mdO
      rw [if_neg (fun e => h (e.1.symm.trans c))]
    · rw [List.filter_cons_of_pos (by simpa using c)]
      unfold mdO
      rw [ih]
theorem InvL.drop {T : TbL R} (h : InvL O M T) (t : Int) : InvL O M (dropL O M T t).1 := by
  have hb : BasL O M (outL T t) := by
    have hsub : ∀ x, x ∈ (outL T t).hv → x ∈ T.hv := fun x hx => (List.mem_filter.1 hx).1
    refine ⟨List.Pairwise.filter _ h.srt, fun x hx => h.rt x (hsub x hx), fun a ha b hb => h.cl a (hsub a ha) b (hsub b hb), h.one.fgt t, fun w hw => h.wr w (mem_fgt.1 hw).1, fun w hw => ?_, fun w hw => ?_⟩
    · show w.ch = true ↔ mdO (T.hv.filter fun h => !decide (h.txn = t)) _ _ ≠ 0
      rw [mdO_out t (mem_fgt.1 hw).2]; exact h.ch w (mem_fgt.1 hw).1
    · show mdO (T.hv.filter fun h => !decide (h.txn = t)) _ _ ≠ 0 → M.cv w.l.mode (mdO (T.hv.filter fun h => !decide (h.txn = t)) _ _) = true
      rw [mdO_out t (mem_fgt.1 hw).2]; exact h.cv w (mem_fgt.1 hw).1
  obtain ⟨g1, g2⟩ := fold_inv O M (thg O T t) (outL T t) [] hb (fun s hs l q hq => by
    rw [mem_thg O h.one] at hs
    have hq' : que (fgt T.wt t) s = l :: q := hq
    rw [que_other h.one (fun w hw e g => hs (.inr ⟨w, hw, e, g⟩))] at hq'
    have hlr := (mem_que.1 (show l ∈ que T.wt s by rw [hq']; exact List.mem_cons_self ..)).1
    have := h.bar s l q hq'
    rw [Bool.eq_false_iff, ne_eq, can_iff] at this ⊢
    intro hc
    refine this fun x hx hr ht => hc x ?_ hr ht
    exact List.mem_filter.2 ⟨hx, by simp; exact fun e => hs (.inl ⟨x, hx, e, hr.trans hlr⟩)⟩)
  exact BasL.inv O M g1 g2
end

end Go.Proofs.YtelfinhpjokmdaaGreatDoor

namespace Go.Proofs.YtelfinhpjokmdaaGreatDoor
set_option maxRecDepth 100000
set_option linter.unusedVariables false
set_option linter.unusedSectionVars false
set_option linter.unnecessarySimpa false
set_option linter.unusedSimpArgs false

section
variable {R : Type} [DecidableEq R] (O : OrdR R) (M : Mds)
/-- held in a mode as strong as before -/
def KpL (T T' : TbL R) (u : Int) (s : R) : Prop := mdO T.hv u s ≠ 0 → mdO T'.hv u s ≠ 0 ∧ M.cv (mdO T'.hv u s) (mdO T.hv u s) = true
theorem KpL.refl {T : TbL R} (hr : ∀ h ∈ T.hv, M.right h.mode = true) (u : Int) (s : R) : KpL M T T u s := fun h => ⟨h, M.rfl _ (hr _ (mdO_mem h))⟩
theorem KpL.trans {T T1 T2 : TbL R} (r0 : ∀ h ∈ T.hv, M.right h.mode = true) (r1 : ∀ h ∈ T1.hv, M.right h.mode = true) (r2 : ∀ h ∈ T2.hv, M.right h.mode = true) {u : Int} {s : R} (h : KpL M T T1 u s) (g : KpL M T1 T2 u s) : KpL M T T2 u s := fun z => by
  obtain ⟨h1, h2⟩ := h z
  obtain ⟨g1, g2⟩ := g h1
  exact ⟨g1, M.cvt _ _ _ (r2 _ (mdO_mem g1)) (r1 _ (mdO_mem h1)) (r0 _ (mdO_mem z)) g2 h2⟩
theorem ask_keeps {T : TbL R} (h : InvL O M T) (t : Int) (s : R) (m : Int) (u : Int) (s' : R) : KpL M T (askL O M T t s m).1 u s' := by
  unfold askL
  by_cases c1 : M.right m = false ∨ (wsh T.wt t).isSome = true
  · rw [if_pos c1]; exact KpL.refl M h.rt u s'
  · rw [if_neg c1]
    have hm : M.right m = true := by cases g : M.right m; exact absurd (.inl g) c1; rfl
    by_cases c2 : M.jn (mdO T.hv t s) m = mdO T.hv t s
    · rw [if_pos c2]; exact KpL.refl M h.rt u s'
    · rw [if_neg c2]
      have hh := h.had (O := O) (M := M) t s
      have hr := M.jnr _ _ hh hm
      by_cases c3 : can M T.hv ⟨t, s, M.jn (mdO T.hv t s) m⟩ = true ∧ (mdO T.hv t s ≠ 0 ∨ que T.wt s = [])
      · rw [if_pos c3]
        intro z
        show mdO (gv O _ T.hv) u s' ≠ 0 ∧ M.cv (mdO (gv O _ T.hv) u s') _ = true
        rw [mdO_gv O h.srt _ (M.pos _ hr) h.nz]
        by_cases c : t = u ∧ s = s'
        · obtain ⟨rfl, rfl⟩ := c
          rw [if_pos ⟨rfl, rfl⟩]
          exact ⟨M.pos _ hr, M.cvl _ _ hh hm⟩
        · rw [if_neg c]
          exact ⟨z, M.rfl _ (h.rt _ (mdO_mem z))⟩
      · rw [if_neg c3]; exact KpL.refl M h.rt u s'
/-- what is granted is held as strong as asked -/
theorem ask_got {T : TbL R} (h : InvL O M T) {t : Int} {s : R} {m : Int} (hg : (askL O M T t s m).2 = 1) : M.right m = true ∧ mdO (askL O M T t s m).1.hv t s ≠ 0 ∧ M.cv (mdO (askL O M T t s m).1.hv t s) m = true := by
  unfold askL at hg ⊢
  by_cases c1 : M.right m = false ∨ (wsh T.wt t).isSome = true
  · rw [if_pos c1] at hg; cases hg
  · rw [if_neg c1] at hg ⊢
    have hm : M.right m = true := by cases g : M.right m; exact absurd (.inl g) c1; rfl
    have hh := h.had (O := O) (M := M) t s
    have hr := M.jnr _ _ hh hm
    have hc := M.cvr _ _ hh hm
    refine ⟨hm, ?_⟩
    by_cases c2 : M.jn (mdO T.hv t s) m = mdO T.hv t s
    · rw [if_pos c2]
      rw [c2] at hr hc
      exact ⟨M.pos _ hr, hc⟩
    · rw [if_neg c2] at hg ⊢
      by_cases c3 : can M T.hv ⟨t, s, M.jn (mdO T.hv t s) m⟩ = true ∧ (mdO T.hv t s ≠ 0 ∨ que T.wt s = [])
      · rw [if_pos c3]
        show mdO (gv O _ T.hv) t s ≠ 0 ∧ M.cv (mdO (gv O _ T.hv) t s) m = true
        rw [mdO_gv O h.srt _ (M.pos _ hr) h.nz, if_pos ⟨rfl, rfl⟩]
        exact ⟨M.pos _ hr, hc⟩
      · rw [if_neg c3] at hg; cases hg
/-- asking again for what one has changes nothing -/
theorem ask_again {T : TbL R} (h : InvL O M T) {t : Int} {s : R} {m : Int} (hw : wsh T.wt t = none) (hz : mdO T.hv t s ≠ 0) (hm : M.right m = true) (hc : M.cv (mdO T.hv t s) m = true) : askL O M T t s m = (T, 1) := by
  unfold askL
  rw [if_neg (by rintro (g | g); (rw [hm] at g; cases g); rw [hw] at g; cases g), if_pos (M.cvj _ _ (h.rt _ (mdO_mem hz)) hm hc)]

theorem stl_keeps (s : R) : ∀ (q : List (Lk R)) (T : TbL R) (out : List Int), BasL O M T → que T.wt s = q → ∀ u s', KpL M T (stl O M q T out).1 u s'
  | [], T, out, h, hq => fun u s' => KpL.refl M h.rt u s'
  | l :: q, T, out, h, hq => fun u s' => by
    unfold stl
    by_cases c : can M T.hv l = true
    · rw [if_pos c]
      have hb := h.grant O M hq c
      obtain ⟨hr, w, hw, rfl⟩ := mem_que.1 (show l ∈ que T.wt s by rw [hq]; exact List.mem_cons_self ..)
      have hm := h.wr w hw
      have h1 : KpL M T ⟨gv O w.l T.hv, fgt T.wt w.l.txn⟩ u s' := fun z => by
        show mdO (gv O _ T.hv) u s' ≠ 0 ∧ M.cv (mdO (gv O _ T.hv) u s') _ = true
        rw [mdO_gv O h.srt _ (M.pos _ hm) h.nz]
        by_cases e : w.l.txn = u ∧ w.l.res = s'
        · rw [if_pos e]
          refine ⟨M.pos _ hm, ?_⟩
          have := h.cv w hw
          rw [e.1, e.2] at this
          exact this z
        · rw [if_neg e]
          exact ⟨z, M.rfl _ (h.rt _ (mdO_mem z))⟩
      have hq2 := que_head h.one hq
      have h2 := stl_keeps s q _ (out ++ [w.l.txn]) hb hq2 u s'
      exact KpL.trans M h.rt hb.rt (stl_inv O M s (fun _ => True) q _ (out ++ [w.l.txn]) hb hq2 (fun _ _ g => absurd trivial g)).1.rt h1 h2
    · rw [if_neg c]; exact KpL.refl M h.rt u s'
theorem fold_keeps : ∀ (ths : List R) (T : TbL R) (out : List Int), BasL O M T → ∀ u s', KpL M T (ths.foldl (fun p s => stl O M (que p.1.wt s) p.1 p.2) (T, out)).1 u s' ∧ BasL O M (ths.foldl (fun p s => stl O M (que p.1.wt s) p.1 p.2) (T, out)).1
  | [], T, out, h, u, s' => ⟨KpL.refl M h.rt u s', h⟩
  | s :: r, T, out, h, u, s' => by
    rw [List.foldl_cons]
    have h1 := stl_keeps O M s (que T.wt s) T out h rfl u s'
    have h2 := (stl_inv O M s (fun _ => True) (que T.wt s) T out h rfl (fun _ _ g => absurd trivial g)).1
    obtain ⟨g1, g2⟩ := fold_keeps r _ (stl O M (que T.wt s) T out).2 h2 u s'
    exact ⟨KpL.trans M h.rt h2.rt g2.rt h1 g1, g2⟩
theorem InvL.out {T : TbL R} (h : InvL O M T) (t : Int) : BasL O M (outL T t) := by
  have hsub : ∀ x, x ∈ (outL T t).hv → x ∈ T.hv := fun x hx => (List.mem_filter.1 hx).1
  refine ⟨List.Pairwise.filter _ h.srt, fun x hx => h.rt x (hsub x hx), fun a ha b hb => h.cl a (hsub a ha) b (hsub b hb), h.one.fgt t, fun w hw => h.wr w (mem_fgt.1 hw).1, fun w hw => ?_, fun w hw => ?_⟩
  · show w.ch = true ↔ mdO (T.hv.filter fun h => !decide (h.txn = t)) _ _ ≠ 0
    rw [mdO_out t (mem_fgt.1 hw).2]; exact h.ch w (mem_fgt.1 hw).1
  · show mdO (T.hv.filter fun h => !decide (h.txn = t)) _ _ ≠ 0 → M.cv w.l.mode (mdO (T.hv.filter fun h => !decide (h.txn = t)) _ _) = true
    rw [mdO_out t (mem_fgt.1 hw).2]; exact h.cv w (mem_fgt.1 hw).1
theorem drop_keeps {T : TbL R} (h : InvL O M T) (t : Int) {u : Int} (hu : u ≠ t) (s : R) : KpL M T (dropL O M T t).1 u s := by
  have h1 := (fold_keeps O M (thg O T t) (outL T t) [] (h.out O M t) u s).1
  intro z
  have e : mdO (outL T t).hv u s = mdO T.hv u s := mdO_out t hu
  have := h1 (by rw [e]; exact z)
  rw [e] at this
  exact this

/-- who is granted: each waited, each once, and who isn't still waits -/
structure GrL (T T' : TbL R) (g : List Int) : Prop where
  nd : g.Nodup
  was : ∀ x ∈ g, ∃ w ∈ T.wt, w.l.txn = x
  left : ∀ w, w ∈ T'.wt ↔ w ∈ T.wt ∧ w.l.txn ∉ g
  hv : ∀ h ∈ T'.hv, (∃ k ∈ T.hv, k.txn = h.txn) ∨ h.txn ∈ g
theorem GrL.refl (T : TbL R) : GrL T T [] := ⟨List.nodup_nil, (fun x hx => by cases hx), fun w => ⟨fun h => ⟨h, by simp⟩, fun h => h.1⟩, fun h hh => .inl ⟨h, hh, rfl⟩⟩
theorem GrL.trans {T T1 T2 : TbL R} {g g' : List Int} (h : GrL T T1 g) (k : GrL T1 T2 g') : GrL T T2 (g ++ g') := by
  refine ⟨List.nodup_append.2 ⟨h.nd, k.nd, fun a ha b hb e => ?_⟩, fun x hx => ?_, fun w => ?_, fun x hx => ?_⟩
  · obtain ⟨w, hw, e2⟩ := k.was b hb
    exact ((h.left w).1 hw).2 (by rw [e2, ← e]; exact ha)
  · rcases List.mem_append.1 hx with e | e
    · exact h.was x e
    · obtain ⟨w, hw, e2⟩ := k.was x e
      exact ⟨w, ((h.left w).1 hw).1, e2⟩
  · rw [k.left, h.left, List.mem_append]
    constructor
    · rintro ⟨⟨a, b⟩, c⟩
      exact ⟨a, fun d => d.elim b c⟩
    · rintro ⟨a, b⟩
      exact ⟨⟨a, fun d => b (.inl d)⟩, fun d => b (.inr d)⟩
  · rcases k.hv x hx with ⟨y, hy, e⟩ | e
    · rcases h.hv y hy with ⟨z, hz, e2⟩ | e2
      · exact .inl ⟨z, hz, e2.trans e⟩
      · exact .inr (List.mem_append.2 (.inl (by rw [← e]; exact e2)))
    · exact .inr (List.mem_append.2 (.inr e))
theorem stl_gr (s : R) : ∀ (q : List (Lk R)) (T : TbL R) (out : List Int), BasL O M T → que T.wt s = q → ∃ g, (stl O M q T out).2 = out ++ g ∧ GrL T (stl O M q T out).1 g
  | [], T, out, h, hq => ⟨[], by simp [stl], GrL.refl T⟩
  | l :: q, T, out, h, hq => by
    unfold stl
    by_cases c : can M T.hv l = true
    · rw [if_pos c]
      have hb := h.grant O M hq c
      obtain ⟨hr, w, hw, rfl⟩ := mem_que.1 (show l ∈ que T.wt s by rw [hq]; exact List.mem_cons_self ..)
      have h1 : GrL T ⟨gv O w.l T.hv, fgt T.wt w.l.txn⟩ [w.l.txn] := by
        refine ⟨by simp, fun x hx => ?_, fun u => ?_, fun x hx => ?_⟩
        · simp at hx; exact ⟨w, hw, hx.symm⟩
        · show u ∈ fgt T.wt w.l.txn ↔ _
          rw [mem_fgt]; simp
        · rcases (mem_gv O h.srt).1 hx with e | ⟨e, _⟩
          · exact .inr (by rw [e]; simp)
          · exact .inl ⟨x, e, rfl⟩
      obtain ⟨g, g1, g2⟩ := stl_gr s q _ (out ++ [w.l.txn]) hb (que_head h.one hq)
      exact ⟨w.l.txn :: g, by rw [g1, List.append_assoc]; rfl, h1.trans g2⟩
    · rw [if_neg c]; exact ⟨[], by simp, GrL.refl T⟩
theorem fold_gr : ∀ (ths : List R) (T : TbL R) (out : List Int), BasL O M T → ∃ g, (ths.foldl (fun p s => stl O M (que p.1.wt s) p.1 p.2) (T, out)).2 = out ++ g ∧ GrL T (ths.foldl (fun p s => stl O M (que p.1.wt s) p.1 p.2) (T, out)).1 g
  | [], T, out, h => ⟨[], by simp, GrL.refl T⟩
  | s :: r, T, out, h => by
    rw [List.foldl_cons]
    obtain ⟨g, g1, g2⟩ := stl_gr O M s (que T.wt s) T out h rfl
    have h2 := (stl_inv O M s (fun _ => True) (que T.wt s) T out h rfl (fun _ _ g => absurd trivial g)).1
    obtain ⟨k, k1, k2⟩ := fold_gr r (stl O M (que T.wt s) T out).1 (stl O M (que T.wt s) T out).2 h2
    exact ⟨g ++ k, by rw [k1, g1, List.append_assoc], g2.trans k2⟩
/-- giving up: who is granted -/
theorem drop_gr {T : TbL R} (h : InvL O M T) (t : Int) : (dropL O M T t).2.Nodup ∧ (∀ x ∈ (dropL O M T t).2, x ≠ t ∧ ∃ w ∈ T.wt, w.l.txn = x) ∧
    (∀ w, w ∈ (dropL O M T t).1.wt ↔ w ∈ T.wt ∧ w.l.txn ≠ t ∧ w.l.txn ∉ (dropL O M T t).2) ∧ ∀ x ∈ (dropL O M T t).1.hv, x.txn ≠ t ∧ ((∃ k ∈ T.hv, k.txn = x.txn) ∨ ∃ w ∈ T.wt, w.l.txn = x.txn) := by
  obtain ⟨g, g1, g2⟩ := fold_gr O M (thg O T t) (outL T t) [] (h.out O M t)
  rw [List.nil_append] at g1
  have e : (dropL O M T t).2 = g := g1
  rw [e]
  have was : ∀ x ∈ g, x ≠ t ∧ ∃ w ∈ T.wt, w.l.txn = x := fun x hx => by
    obtain ⟨w, hw, e⟩ := g2.was x hx
    have := mem_fgt.1 hw
    exact ⟨by rw [← e]; exact this.2, w, this.1, e⟩
  refine ⟨g2.nd, was, fun w => ?_, fun x hx => ?_⟩
  · rw [show w ∈ (dropL O M T t).1.wt ↔ _ from g2.left w]
    rw [show w ∈ (outL T t).wt ↔ _ from mem_fgt, and_assoc]
  · rcases g2.hv x hx with ⟨k, hk, e⟩ | e
    · have := List.mem_filter.1 hk
      have hk2 : k.txn ≠ t := by simpa using this.2
      exact ⟨by rw [← e]; exact hk2, .inl ⟨k, this.1, e⟩⟩
    · exact ⟨(was _ e).1, .inr (was _ e).2⟩
end

end Go.Proofs.YtelfinhpjokmdaaGreatDoor

namespace Go.Proofs.YtelfinhpjokmdaaGreatDoor
set_option maxRecDepth 100000
set_option linter.unusedVariables false
set_option linter.unusedSectionVars false
set_option linter.unnecessarySimpa false
set_option linter.unusedSimpArgs false

section
variable {R : Type} [DecidableEq R] (O : OrdR R) (M : Mds)
/-- what asking does to the wishes and to who is about -/
theorem ask_cases {T : TbL R} (h : InvL O M T) (t : Int) (s : R) (m : Int) :
    (((askL O M T t s m).2 ≠ 2 ∧ (askL O M T t s m).1.wt = T.wt) ∨ ((askL O M T t s m).2 = 2 ∧ (askL O M T t s m).1.hv = T.hv ∧ (∀ u ∈ T.wt, u.l.txn ≠ t) ∧ ∃ w : Ws R, w.l.txn = t ∧ (askL O M T t s m).1.wt = T.wt ++ [w])) ∧
    ∀ x ∈ (askL O M T t s m).1.hv, x.txn = t ∨ x ∈ T.hv := by
  unfold askL
  by_cases c1 : M.right m = false ∨ (wsh T.wt t).isSome = true
  · rw [if_pos c1]; exact ⟨.inl ⟨by simp, rfl⟩, fun x hx => .inr hx⟩
  · rw [if_neg c1]
    have hw : ∀ w ∈ T.wt, w.l.txn ≠ t := wsh_none fun g => c1 (.inr g)
    by_cases c2 : M.jn (mdO T.hv t s) m = mdO T.hv t s
    · rw [if_pos c2]; exact ⟨.inl ⟨by simp, rfl⟩, fun x hx => .inr hx⟩
    · rw [if_neg c2]
      by_cases c3 : can M T.hv ⟨t, s, M.jn (mdO T.hv t s) m⟩ = true ∧ (mdO T.hv t s ≠ 0 ∨ que T.wt s = [])
      · rw [if_pos c3]
        refine ⟨.inl ⟨by simp, rfl⟩, fun x hx => ?_⟩
        rcases (mem_gv O h.srt).1 hx with e | ⟨e, _⟩
        · exact .inl (by rw [e])
        · exact .inr e
      · rw [if_neg c3]
        exact ⟨.inr ⟨rfl, rfl, hw, _, rfl, rfl⟩, fun x hx => .inr hx⟩
/-- all that are about lie in A -/
def Abt (T : TbL R) (A : List Int) : Prop := (∀ h ∈ T.hv, h.txn ∈ A) ∧ ∀ w ∈ T.wt, w.l.txn ∈ A
theorem Abt.ask {T : TbL R} {A : List Int} (h : InvL O M T) (ha : Abt T A) (t : Int) (s : R) (m : Int) : Abt (askL O M T t s m).1 (t :: A) := by
  obtain ⟨h1, h2⟩ := ask_cases O M h t s m
  refine ⟨fun x hx => ?_, fun w hw => ?_⟩
  · rcases h2 x hx with e | e
    · rw [e]; exact List.mem_cons_self ..
    · exact List.mem_cons_of_mem _ (ha.1 x e)
  · rcases h1 with ⟨_, e⟩ | ⟨_, _, _, u, hu, e⟩
    · rw [e] at hw; exact List.mem_cons_of_mem _ (ha.2 w hw)
    · rw [e] at hw
      rcases List.mem_append.1 hw with g | g
      · exact List.mem_cons_of_mem _ (ha.2 w g)
      · simp at g; rw [g, hu]; exact List.mem_cons_self ..
theorem Abt.drop {T : TbL R} {A : List Int} (h : InvL O M T) (ha : Abt T A) (t : Int) : Abt (dropL O M T t).1 (A.filter fun x => !decide (x = t)) := by
  obtain ⟨-, -, h3, h4⟩ := drop_gr O M h t
  refine ⟨fun x hx => ?_, fun w hw => ?_⟩
  · obtain ⟨e, g⟩ := h4 x hx
    refine List.mem_filter.2 ⟨?_, by simpa using e⟩
    rcases g with ⟨k, hk, e⟩ | ⟨w, hw, e⟩
    · rw [← e]; exact ha.1 k hk
    · rw [← e]; exact ha.2 w hw
  · obtain ⟨g1, g2, -⟩ := (h3 w).1 hw
    exact List.mem_filter.2 ⟨ha.2 w g1, by simpa using g2⟩
theorem abt_less {A : List Int} {t : Int} (h : t ∈ A) : (A.filter fun x => !decide (x = t)).length < A.length := filter_lt h (by simp)
theorem Abt.none {T : TbL R} (h : InvL O M T) (ha : Abt T []) : T.hv = [] ∧ T.wt = [] := by
  have : T.hv = [] := by
    cases e : T.hv with
    | nil => rfl
    | cons x r => have := ha.1 x (by rw [e]; exact List.mem_cons_self ..); cases this
  exact ⟨this, h.empty O M this⟩

/-- one thing, had by the first, the others waiting for it -/
def rowT (a : R) (X : Int) : List Int → TbL R
  | [] => ⟨[], []⟩
  | x :: r => ⟨[⟨x, a, X⟩], r.map fun y => ⟨⟨y, a, X⟩, false⟩⟩
theorem row_wsh {a : R} {X : Int} {x : Int} {r : List Int} (h : x ∉ r) : wsh (r.map fun y => (⟨⟨y, a, X⟩, false⟩ : Ws R)) x = none := by
  cases hw : wsh (r.map fun y => (⟨⟨y, a, X⟩, false⟩ : Ws R)) x with
  | none => rfl
  | some l =>
    obtain ⟨w, hwm, rfl, e⟩ := wsh_some hw
    obtain ⟨y, hy, rfl⟩ := List.mem_map.1 hwm
    exact absurd (show x ∈ r by rw [← e]; exact hy) h
theorem row_fgt {a : R} {X : Int} {x : Int} {r : List Int} (h : x ∉ r) : fgt (r.map fun y => (⟨⟨y, a, X⟩, false⟩ : Ws R)) x = r.map fun y => ⟨⟨y, a, X⟩, false⟩ := by
  refine List.filter_eq_self.2 fun w hw => ?_
  obtain ⟨y, hy, rfl⟩ := List.mem_map.1 hw
  simp
  exact fun e => h (by rw [← e]; exact hy)
theorem row_que {a : R} {X : Int} (r : List Int) : que (r.map fun y => (⟨⟨y, a, X⟩, false⟩ : Ws R)) a = r.map fun y => ⟨y, a, X⟩ := by
  unfold que
  have h1 : ((r.map fun y => (⟨⟨y, a, X⟩, false⟩ : Ws R)).filter fun w => decide (w.l.res = a)) = r.map fun y => ⟨⟨y, a, X⟩, false⟩ := List.filter_eq_self.2 fun w hw => by
    obtain ⟨y, hy, rfl⟩ := List.mem_map.1 hw
    simp
  rw [h1]
  have h2 : ((r.map fun y => (⟨⟨y, a, X⟩, false⟩ : Ws R)).filter fun w => w.ch) = [] := List.filter_eq_nil_iff.2 fun w hw => by
    obtain ⟨y, hy, rfl⟩ := List.mem_map.1 hw
    simp
  have h3 : ((r.map fun y => (⟨⟨y, a, X⟩, false⟩ : Ws R)).filter fun w => !w.ch) = r.map fun y => ⟨⟨y, a, X⟩, false⟩ := List.filter_eq_self.2 fun w hw => by
    obtain ⟨y, hy, rfl⟩ := List.mem_map.1 hw
    rfl
  rw [h2, h3, List.nil_append, List.map_map]
  rfl
theorem row_ask {a : R} {X : Int} (hX : M.right X = true) (hn : M.tg X X = false) {x : Int} : ∀ {xs : List Int}, x ∉ xs → askL O M (rowT a X xs) x a X = (rowT a X (xs ++ [x]), if xs = [] then 1 else 2)
  | [], _ => by
    have h0 : M.jn 0 X = X := M.jn0 X hX
    have h1 : X ≠ 0 := M.pos X hX
    simp [askL, rowT, wsh, mdO, h0, h1, hX, can, que, gv]
  | y :: r, h => by
    have h0 : M.jn 0 X = X := M.jn0 X hX
    have h1 : X ≠ 0 := M.pos X hX
    have hxy : y ≠ x := fun e => h (by rw [e]; exact List.mem_cons_self ..)
    have hxr : x ∉ r := fun e => h (List.mem_cons_of_mem _ e)
    have hw := row_wsh (a := a) (X := X) hxr
    have hc : can M [⟨y, a, X⟩] (⟨x, a, X⟩ : Lk R) = false := by simp [can, hxy, hn]
    have hm : mdO [(⟨y, a, X⟩ : Lk R)] x a = 0 := by simp [mdO, hxy]
    have hm' : mdO (rowT a X (y :: r)).hv x a = 0 := hm
    have hw' : wsh (rowT a X (y :: r)).wt x = none := hw
    have hc' : can M (rowT a X (y :: r)).hv (⟨x, a, X⟩ : Lk R) = false := hc
    unfold askL
    simp only [hm', h0, hw', hc']
    rw [if_neg (by rw [hX]; simp), if_neg h1, if_neg (by simp)]
    simp [rowT]
theorem row_drop {a : R} {X : Int} (hX : M.right X = true) (hn : M.tg X X = false) {x : Int} {r : List Int} (h : (x :: r).Nodup) : dropL O M (rowT a X (x :: r)) x = (rowT a X r, r.take 1) := by
  obtain ⟨hxr, hr⟩ := List.nodup_cons.1 h
  have ht : thg O (rowT a X (x :: r)) x = [a] := by
    unfold thg
    show (match wsh (r.map fun y => (⟨⟨y, a, X⟩, false⟩ : Ws R)) x with | some w => _ | none => _) = _
    rw [row_wsh hxr]
    simp [rowT]
  have ho : outL (rowT a X (x :: r)) x = ⟨[], r.map fun y => ⟨⟨y, a, X⟩, false⟩⟩ := by
    unfold outL
    show (⟨[(⟨x, a, X⟩ : Lk R)].filter _, fgt (r.map fun y => (⟨⟨y, a, X⟩, false⟩ : Ws R)) x⟩ : TbL R) = _
    rw [row_fgt hxr]
    simp
  unfold dropL
  rw [ht, ho, List.foldl_cons, List.foldl_nil]
  show stl O M (que (r.map fun y => (⟨⟨y, a, X⟩, false⟩ : Ws R)) a) _ [] = _
  rw [row_que]
  cases r with
  | nil => rfl
  | cons y r =>
    obtain ⟨hyr, hr2⟩ := List.nodup_cons.1 hr
    rw [List.map_cons, stl, if_pos (by simp [can])]
    show stl O M (r.map fun y => ⟨y, a, X⟩) ⟨[⟨y, a, X⟩], fgt ((⟨⟨y, a, X⟩, false⟩ : Ws R) :: r.map fun y => ⟨⟨y, a, X⟩, false⟩) y⟩ [y] = _
    have hf : fgt ((⟨⟨y, a, X⟩, false⟩ : Ws R) :: r.map fun y => ⟨⟨y, a, X⟩, false⟩) y = r.map fun y => ⟨⟨y, a, X⟩, false⟩ := by
      unfold fgt
      rw [List.filter_cons_of_neg (by simp)]
      exact row_fgt hyr
    rw [hf]
    cases r with
    | nil => rfl
    | cons z r =>
      have hzy : y ≠ z := fun e => hyr (by rw [e]; exact List.mem_cons_self ..)
      rw [List.map_cons, stl, if_neg (by simp [can, hzy, hn])]
      rfl
end

end Go.Proofs.YtelfinhpjokmdaaGreatDoor

namespace Go.Proofs.YtelfinhpjokmdaaGreatDoor
set_option maxRecDepth 100000
set_option linter.unusedVariables false
set_option linter.unusedSectionVars false
set_option linter.unnecessarySimpa false
set_option linter.unusedSimpArgs false

/-- two lists in one strict order with the same in them -/
theorem strict_eq {α : Type} {r : α → α → Prop} (irr : ∀ a, ¬ r a a) (tr : ∀ a b c, r a b → r b c → r a c) : ∀ (l m : List α), l.Pairwise r → m.Pairwise r → (∀ x, x ∈ l ↔ x ∈ m) → l = m
  | [], [], _, _, _ => rfl
  | [], y :: m, _, _, h => absurd ((h y).2 (List.mem_cons_self ..)) (by simp)
  | x :: l, [], _, _, h => absurd ((h x).1 (List.mem_cons_self ..)) (by simp)
  | x :: l, y :: m, hl, hm, h => by
    obtain ⟨l1, l2⟩ := List.pairwise_cons.1 hl
    obtain ⟨m1, m2⟩ := List.pairwise_cons.1 hm
    have hxy : x = y := by
      rcases List.mem_cons.1 ((h x).1 (List.mem_cons_self ..)) with e | e
      · exact e
      · rcases List.mem_cons.1 ((h y).2 (List.mem_cons_self ..)) with g | g
        · exact g.symm
        · exact absurd (tr _ _ _ (l1 y g) (m1 x e)) (irr x)
    subst hxy
    congr 1
    refine strict_eq irr tr l m l2 m2 fun z => ?_
    constructor
    · intro hz
      rcases List.mem_cons.1 ((h z).1 (List.mem_cons_of_mem _ hz)) with e | e
      · rw [e] at hz; exact absurd (l1 x hz) (irr x)
      · exact e
    · intro hz
      rcases List.mem_cons.1 ((h z).2 (List.mem_cons_of_mem _ hz)) with e | e
      · rw [e] at hz; exact absurd (m1 x hz) (irr x)
      · exact e

/-- an edge ahead of another -/
def edLt (a b : Int × Int) : Prop := a.1 < b.1 ∨ (a.1 = b.1 ∧ a.2 < b.2)
instance (a b : Int × Int) : Decidable (edLt a b) := by unfold edLt; infer_instance
theorem edLt_irr (a : Int × Int) : ¬ edLt a a := by unfold edLt; omega
theorem edLt_tr (a b c : Int × Int) (h : edLt a b) (g : edLt b c) : edLt a c := by unfold edLt at *; omega
theorem edLt_tot (a b : Int × Int) : edLt a b ∨ a = b ∨ edLt b a := by
  unfold edLt
  rcases Int.lt_trichotomy a.1 b.1 with h | h | h
  · exact .inl (.inl h)
  · rcases Int.lt_trichotomy a.2 b.2 with g | g | g
    · exact .inl (.inr ⟨h, g⟩)
    · exact .inr (.inl (Prod.ext h g))
    · exact .inr (.inr (.inr ⟨h.symm, g⟩))
  · exact .inr (.inr (.inl h))
/-- an edge put where it belongs, once -/
def edIns (e : Int × Int) : List (Int × Int) → List (Int × Int)
  | [] => [e]
  | x :: r => if x = e then x :: r else if edLt e x then e :: x :: r else x :: edIns e r
theorem mem_edIns {e x : Int × Int} : ∀ {l : List (Int × Int)}, x ∈ edIns e l ↔ x = e ∨ x ∈ l
  | [] => by simp [edIns]
  | y :: l => by
    have ih := mem_edIns (e := e) (x := x) (l := l)
    unfold edIns
    by_cases c : y = e
    · rw [if_pos c, List.mem_cons, c]
      constructor
      · exact .inr
      · rintro (h | h)
        · exact .inl h
        · exact h
    · rw [if_neg c]
      split
      · simp
      · rw [List.mem_cons, ih, List.mem_cons]
        constructor
        · rintro (h | h | h)
          · exact .inr (.inl h)
          · exact .inl h
          · exact .inr (.inr h)
        · rintro (h | h | h)
          · exact .inr (.inl h)
          · exact .inl h
          · exact .inr (.inr h)
theorem srt_edIns {e : Int × Int} : ∀ {l : List (Int × Int)}, l.Pairwise edLt → (edIns e l).Pairwise edLt
  | [], _ => by simp [edIns]
  | y :: l, h => by
    obtain ⟨h1, h2⟩ := List.pairwise_cons.1 h
    unfold edIns
    by_cases c : y = e
    · rw [if_pos c]; exact h
    · rw [if_neg c]
      by_cases c2 : edLt e y
      · rw [if_pos c2]
        refine List.pairwise_cons.2 ⟨fun x hx => ?_, h⟩
        rcases List.mem_cons.1 hx with g | g
        · rw [g]; exact c2
        · exact edLt_tr _ _ _ c2 (h1 x g)
      · rw [if_neg c2]
        refine List.pairwise_cons.2 ⟨fun x hx => ?_, srt_edIns h2⟩
        rcases mem_edIns.1 hx with g | g
        · rw [g]
          rcases edLt_tot e y with q | q | q
          · exact absurd q c2
          · exact absurd q.symm c
          · exact q
        · exact h1 x g

section
variable {R : Type} [DecidableEq R] (O : OrdR R) (M : Mds)
/-- two lists of locks in order with the same in them -/
theorem srtL_eq {H K : List (Lk R)} (h : SrtL O H) (k : SrtL O K) (e : ∀ x, x ∈ H ↔ x ∈ K) : H = K :=
  strict_eq (ahd_irr O) (fun _ _ _ a b => ahd_tr O a b) H K h k e
/-- those that stand ahead of a transaction in a queue -/
def aheadQ (q : List (Lk R)) (t : Int) : List Int := (q.takeWhile fun l => !decide (l.txn = t)).map fun l => l.txn
/-- x bars the wish l -/
def Bars (T : TbL R) (l : Lk R) (x : Int) : Prop := (∃ h ∈ T.hv, h.res = l.res ∧ h.txn ≠ l.txn ∧ M.tg h.mode l.mode = false ∧ h.txn = x) ∨ x ∈ aheadQ (que T.wt l.res) l.txn
/-- who waits for whom -/
structure EdS (T : TbL R) (E : List (Int × Int)) : Prop where
  srt : E.Pairwise edLt
  mem : ∀ e, e ∈ E ↔ ∃ w ∈ T.wt, w.l.txn = e.1 ∧ Bars M T w.l e.2
theorem EdS.one {T : TbL R} {E F : List (Int × Int)} (h : EdS M T E) (k : EdS M T F) : E = F :=
  strict_eq edLt_irr edLt_tr E F h.srt k.srt fun x => by rw [h.mem, k.mem]
/-- the same locks, the same wishes: the same edges -/
theorem EdS.nil {T : TbL R} (h : T.wt = []) : EdS M T [] := ⟨List.Pairwise.nil, fun e => by rw [h]; simp⟩
/-- each transaction that waits waits for somebody -/
theorem bars_some {T : TbL R} (h : InvL O M T) {w : Ws R} (hw : w ∈ T.wt) : ∃ x, Bars M T w.l x := by
  cases hq : que T.wt w.l.res with
  | nil => have : w.l ∈ que T.wt w.l.res := mem_que.2 ⟨rfl, w, hw, rfl⟩; rw [hq] at this; cases this
  | cons l q =>
    by_cases e : l.txn = w.l.txn
    · obtain ⟨hr, u, hu, rfl⟩ := mem_que.1 (show l ∈ que T.wt w.l.res by rw [hq]; exact List.mem_cons_self ..)
      obtain rfl := One.eq h.one hu hw e
      have hb := h.bar _ _ _ hq
      rw [Bool.eq_false_iff, ne_eq, can_iff] at hb
      obtain ⟨y, g⟩ := Classical.not_forall.1 hb
      obtain ⟨y1, g⟩ := Classical.not_forall.1 g
      obtain ⟨y2, g⟩ := Classical.not_forall.1 g
      obtain ⟨y3, g⟩ := Classical.not_forall.1 g
      exact ⟨y.txn, .inl ⟨y, y1, y2, y3, Bool.eq_false_iff.2 g, rfl⟩⟩
    · refine ⟨l.txn, .inr ?_⟩
      unfold aheadQ
      rw [hq, List.takeWhile_cons_of_pos (by simpa using e)]
      simp
end

end Go.Proofs.YtelfinhpjokmdaaGreatDoor

namespace Go.Proofs.YtelfinhpjokmdaaGreatDoor
set_option maxRecDepth 100000
set_option linter.unusedVariables false
set_option linter.unusedSectionVars false
set_option linter.unnecessarySimpa false
set_option linter.unusedSimpArgs false

section
variable {R : Type} [DecidableEq R] (O : OrdR R) (M : Mds)
/-- the locks but one's of one thing -/
def butL (H : List (Lk R)) (t : Int) (s : R) : List (Lk R) := H.filter fun h => !(decide (h.txn = t) && decide (h.res = s))
theorem nk {h : Lk R} {t : Int} {s : R} : (!(decide (h.txn = t) && decide (h.res = s))) = true ↔ ¬ (h.txn = t ∧ h.res = s) := by
  by_cases c1 : h.txn = t <;> by_cases c2 : h.res = s <;> simp [c1, c2]
theorem mem_butL {H : List (Lk R)} {t : Int} {s : R} {h : Lk R} : h ∈ butL H t s ↔ h ∈ H ∧ ¬ (h.txn = t ∧ h.res = s) := by
  unfold butL
  rw [List.mem_filter, nk]
theorem butL_self {H : List (Lk R)} {t : Int} {s : R} (h : ∀ x ∈ H, ¬ (x.txn = t ∧ x.res = s)) : butL H t s = H :=
  List.filter_eq_self.2 fun x hx => nk.2 (h x hx)
/-- how many locks of a thing stand in a mode -/
def cntM (H : List (Lk R)) (s : R) (m : Int) : Nat := H.countP fun h => decide (h.res = s) && decide (h.mode = m)
theorem cnt_but {H : List (Lk R)} (hs : SrtL O H) (hp : ∀ x ∈ H, x.mode ≠ 0) (t : Int) (s : R) {m : Int} (hm : m ≠ 0) : cntM H s m = cntM (butL H t s) s m + if mdO H t s = m then 1 else 0 := by
  induction H with
  | nil =>
    have : mdO ([] : List (Lk R)) t s = 0 := rfl
    rw [this, if_neg hm.symm]
    rfl
  | cons x r ih =>
    obtain ⟨h1, h2⟩ := List.pairwise_cons.1 hs
    by_cases c : x.txn = t ∧ x.res = s
    · have hb : butL (x :: r) t s = r := by
        unfold butL
        rw [List.filter_cons_of_neg (by simp [c.1, c.2])]
        exact List.filter_eq_self.2 fun y hy => nk.2 fun e => ahd_key O (h1 y hy) ⟨c.1.trans e.1.symm, c.2.trans e.2.symm⟩
      have he : mdO (x :: r) t s = x.mode := by unfold mdO; rw [if_pos c]
      rw [hb, he]
      unfold cntM
      rw [List.countP_cons]
      by_cases e : x.mode = m <;> simp [c.2, e]
    · have hb : butL (x :: r) t s = x :: butL r t s := by
        exact List.filter_cons_of_pos (p := fun h : Lk R => !(decide (h.txn = t) && decide (h.res = s))) (nk.2 c)
      have he : mdO (x :: r) t s = mdO r t s := by
        conv => lhs; unfold mdO
        rw [if_neg c]
      have hi := ih h2 fun y hy => hp y (List.mem_cons_of_mem _ hy)
      rw [hb, he]
      unfold cntM at hi ⊢
      rw [List.countP_cons, List.countP_cons, hi]
      omega
theorem cnt_other {H : List (Lk R)} (t : Int) {s s' : R} (h : s' ≠ s) (m : Int) : cntM (butL H t s) s' m = cntM H s' m := by
  unfold cntM butL
  rw [List.countP_filter]
  refine List.countP_congr fun x _ => ?_
  by_cases c : x.res = s'
  · have : x.res ≠ s := fun e => h (c.symm.trans e)
    simp [c, h]
  · simp [c]
theorem gv_perm {l : Lk R} : ∀ {H : List (Lk R)}, SrtL O H → (gv O l H).Perm (l :: butL H l.txn l.res)
  | [], _ => by simp [gv, butL]
  | x :: r, hs => by
    obtain ⟨h1, h2⟩ := List.pairwise_cons.1 hs
    unfold gv
    by_cases c : keyE l x
    · rw [if_pos c]
      have hb : butL (x :: r) l.txn l.res = r := by
        unfold butL
        rw [List.filter_cons_of_neg (by simp [c.1, c.2])]
        exact List.filter_eq_self.2 fun y hy => nk.2 fun e => ahd_key O (h1 y hy) ⟨c.1.symm.trans e.1.symm, c.2.symm.trans e.2.symm⟩
      rw [hb]
    · rw [if_neg c]
      by_cases c2 : ahd O l x
      · rw [if_pos c2]
        have hb : butL (x :: r) l.txn l.res = x :: r := butL_self fun y hy e => by
          rcases List.mem_cons.1 hy with g | g
          · rw [g] at e; exact c ⟨e.1.symm, e.2.symm⟩
          · exact ahd_key O (ahd_tr O c2 (h1 y g)) ⟨e.1.symm, e.2.symm⟩
        rw [hb]
      · rw [if_neg c2]
        have hb : butL (x :: r) l.txn l.res = x :: butL r l.txn l.res := by
          exact List.filter_cons_of_pos (p := fun h : Lk R => !(decide (h.txn = l.txn) && decide (h.res = l.res))) (nk.2 fun e => c ⟨e.1.symm, e.2.symm⟩)
        rw [hb]
        exact ((gv_perm h2).cons x).trans (List.Perm.swap l x _)
theorem cnt_gv {H : List (Lk R)} (hs : SrtL O H) (l : Lk R) (s : R) (m : Int) : cntM (gv O l H) s m = cntM (butL H l.txn l.res) s m + if l.res = s ∧ l.mode = m then 1 else 0 := by
  unfold cntM
  rw [(gv_perm O hs).countP_eq, List.countP_cons]
  by_cases c1 : l.res = s <;> by_cases c2 : l.mode = m <;> simp [c1, c2]
theorem cnt_pos {H : List (Lk R)} {s : R} {m : Int} : 0 < cntM H s m ↔ ∃ h ∈ H, h.res = s ∧ h.mode = m := by
  unfold cntM
  rw [List.countP_pos_iff]
  simp
/-- whether a mode goes together with the locks of all the others, told by the counts -/
theorem can_cnt {H : List (Lk R)} {t : Int} {s : R} {md : Int} : can M H ⟨t, s, md⟩ = true ↔ ∀ m, 0 < cntM (butL H t s) s m → M.tg m md = true := by
  rw [can_iff]
  constructor
  · intro h m hm
    obtain ⟨x, hx, h1, rfl⟩ := cnt_pos.1 hm
    obtain ⟨h2, h3⟩ := mem_butL.1 hx
    exact h x h2 h1 fun e => h3 ⟨e, h1⟩
  · intro h x hx h1 h2
    exact h x.mode (cnt_pos.2 ⟨x, mem_butL.2 ⟨hx, fun e => h2 e.1⟩, h1, rfl⟩)
/-- the things come in order, each once -/
theorem srt_insR {s : R} : ∀ {l : List R}, l.Pairwise (fun a b => O.lt a b = true) → s ∉ l → (insR O s l).Pairwise (fun a b => O.lt a b = true)
  | [], _, _ => by simp [insR]
  | x :: l, h, hn => by
    obtain ⟨h1, h2⟩ := List.pairwise_cons.1 h
    unfold insR
    by_cases c : O.lt s x = true
    · rw [if_pos c]
      refine List.pairwise_cons.2 ⟨fun y hy => ?_, h⟩
      rcases List.mem_cons.1 hy with e | e
      · rw [e]; exact c
      · exact O.tr _ _ _ c (h1 y e)
    · rw [if_neg c]
      refine List.pairwise_cons.2 ⟨fun y hy => ?_, srt_insR h2 fun e => hn (List.mem_cons_of_mem _ e)⟩
      rcases (mem_insR O).1 hy with e | e
      · rw [e]
        rcases O.tot s x with g | g | g
        · exact absurd g c
        · exact absurd (by rw [g]; exact List.mem_cons_self ..) hn
        · exact g
      · exact h1 y e
theorem srt_thg {T : TbL R} (h : InvL O M T) (t : Int) : (thg O T t).Pairwise (fun a b => O.lt a b = true) := by
  have base : ((T.hv.filter fun h => decide (h.txn = t)).map fun h => h.res).Pairwise (fun a b => O.lt a b = true) := by
    rw [List.pairwise_map]
    refine (List.Pairwise.filter _ h.srt).imp_of_mem ?_
    intro a b ha hb hab
    have h1 : a.txn = t := by simpa using (List.mem_filter.1 ha).2
    have h2 : b.txn = t := by simpa using (List.mem_filter.1 hb).2
    rcases hab with g | ⟨_, g⟩
    · exact g
    · omega
  unfold thg
  cases hw : wsh T.wt t with
  | none => exact base
  | some l =>
    simp only
    by_cases z : mdO T.hv t l.res = 0
    · rw [if_pos z]
      refine srt_insR O base fun hm => ?_
      obtain ⟨x, hx, e⟩ := List.mem_map.1 hm
      obtain ⟨h1, h2⟩ := List.mem_filter.1 hx
      have h3 : x.txn = t := by simpa using h2
      have := mdO_of O h.srt h1
      rw [h3, e, z] at this
      exact InvL.nz O M h x h1 this.symm
    · rw [if_neg z]; exact base
end

end Go.Proofs.YtelfinhpjokmdaaGreatDoor

namespace Go.Proofs.YtelfinhpjokmdaaGreatDoor
set_option maxRecDepth 100000
set_option linter.unusedVariables false
set_option linter.unusedSectionVars false
set_option linter.unnecessarySimpa false
set_option linter.unusedSimpArgs false

theorem while_split {α : Type} (p : α → Bool) : ∀ (A B : List α), (∀ x ∈ A, p x = true) → (∀ x ∈ B, p x = false) → (A ++ B).takeWhile p = A ∧ (A ++ B).dropWhile p = B
  | [], [], _, _ => ⟨rfl, rfl⟩
  | [], b :: B, _, hb => by
    have := hb b (List.mem_cons_self ..)
    exact ⟨by simp [List.takeWhile, this], by simp [List.dropWhile, this]⟩
  | a :: A, B, ha, hb => by
    have h1 := ha a (List.mem_cons_self ..)
    obtain ⟨h2, h3⟩ := while_split p A B (fun x hx => ha x (List.mem_cons_of_mem _ hx)) hb
    exact ⟨by simp [List.takeWhile, h1, h2], by simp [List.dropWhile, h1, h3]⟩

section
variable {R : Type} [DecidableEq R] (O : OrdR R) (M : Mds)
theorem que_wait_other {W : List (Ws R)} {l : Lk R} {c : Bool} {s : R} (h : l.res ≠ s) : que (W ++ [⟨l, c⟩]) s = que W s := by
  unfold que
  rw [List.filter_append, List.filter_cons_of_neg (by simpa using h), List.filter_nil, List.append_nil]
theorem que_wait_new {W : List (Ws R)} {l : Lk R} : que (W ++ [⟨l, false⟩]) l.res = que W l.res ++ [l] := by
  unfold que
  rw [List.filter_append, List.filter_cons_of_pos (by simp), List.filter_nil, List.filter_append, List.filter_append, List.filter_cons_of_neg (by simp), List.filter_nil, List.append_nil, List.filter_cons_of_pos (by rfl), List.filter_nil]
  simp
/-- a change stands behind the other changes -/
theorem que_wait_ch {T : TbL R} (h : InvL O M T) {l : Lk R} :
    que (T.wt ++ [⟨l, true⟩]) l.res = (que T.wt l.res).takeWhile (fun x => !decide (mdO T.hv x.txn l.res = 0)) ++ l :: (que T.wt l.res).dropWhile (fun x => !decide (mdO T.hv x.txn l.res = 0)) := by
  have hA : ∀ x ∈ ((T.wt.filter fun w => decide (w.l.res = l.res)).filter (fun w => w.ch)).map (fun w => w.l), (!decide (mdO T.hv x.txn l.res = 0)) = true := by
    intro x hx
    obtain ⟨w, hw, rfl⟩ := List.mem_map.1 hx
    obtain ⟨h1, h2⟩ := List.mem_filter.1 hw
    obtain ⟨h3, h4⟩ := List.mem_filter.1 h1
    have := (h.ch w h3).1 h2
    rw [show w.l.res = l.res by simpa using h4] at this
    simpa using this
  have hB : ∀ x ∈ ((T.wt.filter fun w => decide (w.l.res = l.res)).filter (fun w => !w.ch)).map (fun w => w.l), (!decide (mdO T.hv x.txn l.res = 0)) = false := by
    intro x hx
    obtain ⟨w, hw, rfl⟩ := List.mem_map.1 hx
    obtain ⟨h1, h2⟩ := List.mem_filter.1 hw
    obtain ⟨h3, h4⟩ := List.mem_filter.1 h1
    have h5 : mdO T.hv w.l.txn w.l.res = 0 := by
      refine Decidable.byContradiction fun e => ?_
      rw [(h.ch w h3).2 e] at h2
      cases h2
    rw [show w.l.res = l.res by simpa using h4] at h5
    simp [h5]
  have hq : que T.wt l.res = ((T.wt.filter fun w => decide (w.l.res = l.res)).filter (fun w => w.ch)).map (fun w => w.l) ++ ((T.wt.filter fun w => decide (w.l.res = l.res)).filter (fun w => !w.ch)).map (fun w => w.l) := by
    unfold que
    rw [List.map_append]
  obtain ⟨h1, h2⟩ := while_split (fun x : Lk R => !decide (mdO T.hv x.txn l.res = 0)) _ _ hA hB
  rw [hq, h1, h2]
  unfold que
  rw [List.filter_append, List.filter_cons_of_pos (by simp), List.filter_nil, List.filter_append, List.filter_append, List.filter_cons_of_pos (by rfl), List.filter_nil, List.filter_cons_of_neg (by simp), List.filter_nil, List.append_nil]
  simp
end

end Go.Proofs.YtelfinhpjokmdaaGreatDoor

namespace Go.Proofs.YtelfinhpjokmdaaGreatDoor
set_option maxRecDepth 100000
set_option linter.unusedVariables false

theorem u8_irr (a : List UInt8) : ¬ a < a := List.lt_irrefl a
theorem u8_tr {a b c : List UInt8} (h : a < b) (g : b < c) : a < c := List.lt_trans h g
theorem u8_tot : ∀ a b : List UInt8, a < b ∨ a = b ∨ b < a
  | [], [] => .inr (.inl rfl)
  | [], b :: r => .inl (List.nil_lt_cons _ _)
  | a :: l, [] => .inr (.inr (List.nil_lt_cons _ _))
  | a :: l, b :: r => by
    rcases Nat.lt_trichotomy a.toNat b.toNat with h | h | h
    · exact .inl (List.cons_lt_cons_iff.2 (.inl (UInt8.lt_iff_toNat_lt.2 h)))
    · have e : a = b := UInt8.toNat_inj.1 h
      subst e
      rcases u8_tot l r with g | g | g
      · exact .inl (List.cons_lt_cons_iff.2 (.inr ⟨rfl, g⟩))
      · exact .inr (.inl (by rw [g]))
      · exact .inr (.inr (List.cons_lt_cons_iff.2 (.inr ⟨rfl, g⟩)))
    · exact .inr (.inr (List.cons_lt_cons_iff.2 (.inl (UInt8.lt_iff_toNat_lt.2 h))))
/-- texts in the order of their bytes -/
def ordT : OrdR (List UInt8) where
  lt a b := decide (a < b)
  irr a := decide_eq_false (u8_irr a)
  tr a b c h g := decide_eq_true (u8_tr (of_decide_eq_true h) (of_decide_eq_true g))
  tot a b := by
    rcases u8_tot a b with h | h | h
    · exact .inl (decide_eq_true h)
    · exact .inr (.inl h)
    · exact .inr (.inr (decide_eq_true h))

end Go.Proofs.YtelfinhpjokmdaaGreatDoor

namespace Go.Proofs.YtelfinhpjokmdaaGreatDoor
set_option maxRecDepth 100000
open Go.RowKit Go.Joins Go.ChangeShapes Go.WideShapes
set_option linter.unusedVariables false
set_option linter.unnecessarySimpa false
set_option linter.unusedSimpArgs false

/-- the numbers that the library's text has here -/
def soRen : Go.Shelf.Ren where
  f := fun x => match x with
    | 190 => 30
    | 125 => 56
    | 258 => 55
    | 128 => 80
    | 129 => 81
    | 302 => 71
    | 303 => 72
    | 304 => 73
    | 305 => 74
    | 306 => 75
    | 307 => 76
    | 308 => 77
    | 309 => 78
    | 310 => 79
    | 333 => 86
    | 329 => 87
    | 330 => 88
    | 334 => 89
    | 335 => 90
    | 336 => 91
    | 344 => 102
    | n => n
  t := fun x => match x with
    | 31 => 67
    | 9 => 9
    | 3 => 3
    | 46 => 97
    | 0 => 0
    | 51 => 114
    | 53 => 116
    | 4 => 4
    | 183 => 107
    | 182 => 106
    | 131 => 89
    | 5 => 5
    | 218 => 120
    | 222 => 124
    | 228 => 132
    | 229 => 133
    | n => n
  g := fun x => x
theorem soLays : Go.Proofs.Lays.n190 Tryz.prog soRen :=
  { mixed := by kernel_rfl,
    f125 := Eq.trans Tryz.func56 (congrArg some rfl),
    f128 := Eq.trans Tryz.func80 (congrArg some rfl),
    f129 := Eq.trans Tryz.func81 (congrArg some rfl),
    f190 := Eq.trans Tryz.func30 (congrArg some rfl),
    f258 := Eq.trans Tryz.func55 (congrArg some rfl),
    f302 := Eq.trans Tryz.func71 (congrArg some rfl),
    f303 := Eq.trans Tryz.func72 (congrArg some rfl),
    f304 := Eq.trans Tryz.func73 (congrArg some rfl),
    f305 := Eq.trans Tryz.func74 (congrArg some rfl),
    f306 := Eq.trans Tryz.func75 (congrArg some rfl),
    f307 := Eq.trans Tryz.func76 (congrArg some rfl),
    f308 := Eq.trans Tryz.func77 (congrArg some rfl),
    f309 := Eq.trans Tryz.func78 (congrArg some rfl),
    f310 := Eq.trans Tryz.func79 (congrArg some rfl),
    f329 := Eq.trans Tryz.func87 (congrArg some rfl),
    f330 := Eq.trans Tryz.func88 (congrArg some rfl),
    f333 := Eq.trans Tryz.func86 (congrArg some rfl),
    f334 := Eq.trans Tryz.func89 (congrArg some rfl),
    f335 := Eq.trans Tryz.func90 (congrArg some rfl),
    f336 := Eq.trans Tryz.func91 (congrArg some rfl),
    f344 := Eq.trans Tryz.func102 (congrArg some rfl),
    t0 := Tryz.underlying0,
    a0 := Tryz.isAgg0,
    z0 := Tryz.sizeOf0,
    v0 := Tryz.zeroValue0,
    t3 := Tryz.underlying3,
    a3 := Tryz.isAgg3,
    z3 := Tryz.sizeOf3,
    v3 := Tryz.zeroValue3,
    t4 := Tryz.underlying4,
    a4 := Tryz.isAgg4,
    z4 := Tryz.sizeOf4,
    v4 := Tryz.zeroValue4,
    t5 := Tryz.underlying5,
    a5 := Tryz.isAgg5,
    z5 := Tryz.sizeOf5,
    v5 := Tryz.zeroValue5,
    t9 := Tryz.underlying9,
    a9 := Tryz.isAgg9,
    z9 := Tryz.sizeOf9,
    v9 := Tryz.zeroValue9,
    t31 := Tryz.underlying67,
    a31 := Tryz.isAgg67,
    z31 := Tryz.sizeOf67,
    v31 := Tryz.zeroValue67,
    t46 := Tryz.underlying97,
    a46 := Tryz.isAgg97,
    z46 := Tryz.sizeOf97,
    v46 := Tryz.zeroValue97,
    t51 := Tryz.underlying114,
    a51 := Tryz.isAgg114,
    z51 := Tryz.sizeOf114,
    v51 := Tryz.zeroValue114,
    t53 := Tryz.underlying116,
    a53 := Tryz.isAgg116,
    z53 := Tryz.sizeOf116,
    v53 := Tryz.zeroValue116,
    t131 := Tryz.underlying89,
    a131 := Tryz.isAgg89,
    z131 := Tryz.sizeOf89,
    v131 := Tryz.zeroValue89,
    t182 := Tryz.underlying106,
    a182 := Tryz.isAgg106,
    z182 := Tryz.sizeOf106,
    v182 := Tryz.zeroValue106,
    t183 := Tryz.underlying107,
    a183 := Tryz.isAgg107,
    z183 := Tryz.sizeOf107,
    v183 := Tryz.zeroValue107,
    t218 := Tryz.underlying120,
    a218 := Tryz.isAgg120,
    z218 := Tryz.sizeOf120,
    v218 := Tryz.zeroValue120,
    t222 := Tryz.underlying124,
    a222 := Tryz.isAgg124,
    z222 := Tryz.sizeOf124,
    v222 := Tryz.zeroValue124,
    t228 := Tryz.underlying132,
    a228 := Tryz.isAgg132,
    z228 := Tryz.sizeOf132,
    v228 := Tryz.zeroValue132,
    t229 := Tryz.underlying133,
    a229 := Tryz.isAgg133,
    z229 := Tryz.sizeOf133,
    v229 := Tryz.zeroValue133 }
/-- the numbers that the library's text has here -/
def siRen : Go.Shelf.Ren where
  f := fun x => match x with
    | 189 => 62
    | 125 => 56
    | 257 => 83
    | 128 => 80
    | 129 => 81
    | 294 => 92
    | 295 => 93
    | 296 => 94
    | 297 => 95
    | 298 => 96
    | 299 => 97
    | 216 => 98
    | 300 => 99
    | 301 => 100
    | 328 => 103
    | 329 => 87
    | 330 => 88
    | 331 => 104
    | 332 => 105
    | 215 => 106
    | 343 => 107
    | n => n
  t := fun x => match x with
    | 28 => 35
    | 3 => 3
    | 46 => 97
    | 0 => 0
    | 51 => 114
    | 53 => 116
    | 4 => 4
    | 183 => 107
    | 182 => 106
    | 131 => 89
    | 5 => 5
    | 9 => 9
    | 218 => 120
    | 222 => 124
    | 228 => 132
    | 229 => 133
    | n => n
  g := fun x => x
theorem siLays : Go.Proofs.Lays.n189 Tryz.prog siRen :=
  { mixed := by kernel_rfl,
    f125 := Eq.trans Tryz.func56 (congrArg some rfl),
    f128 := Eq.trans Tryz.func80 (congrArg some rfl),
    f129 := Eq.trans Tryz.func81 (congrArg some rfl),
    f189 := Eq.trans Tryz.func62 (congrArg some rfl),
    f215 := Eq.trans Tryz.func106 (congrArg some rfl),
    f216 := Eq.trans Tryz.func98 (congrArg some rfl),
    f257 := Eq.trans Tryz.func83 (congrArg some rfl),
    f294 := Eq.trans Tryz.func92 (congrArg some rfl),
    f295 := Eq.trans Tryz.func93 (congrArg some rfl),
    f296 := Eq.trans Tryz.func94 (congrArg some rfl),
    f297 := Eq.trans Tryz.func95 (congrArg some rfl),
    f298 := Eq.trans Tryz.func96 (congrArg some rfl),
    f299 := Eq.trans Tryz.func97 (congrArg some rfl),
    f300 := Eq.trans Tryz.func99 (congrArg some rfl),
    f301 := Eq.trans Tryz.func100 (congrArg some rfl),
    f328 := Eq.trans Tryz.func103 (congrArg some rfl),
    f329 := Eq.trans Tryz.func87 (congrArg some rfl),
    f330 := Eq.trans Tryz.func88 (congrArg some rfl),
    f331 := Eq.trans Tryz.func104 (congrArg some rfl),
    f332 := Eq.trans Tryz.func105 (congrArg some rfl),
    f343 := Eq.trans Tryz.func107 (congrArg some rfl),
    t0 := Tryz.underlying0,
    a0 := Tryz.isAgg0,
    z0 := Tryz.sizeOf0,
    v0 := Tryz.zeroValue0,
    t3 := Tryz.underlying3,
    a3 := Tryz.isAgg3,
    z3 := Tryz.sizeOf3,
    v3 := Tryz.zeroValue3,
    t4 := Tryz.underlying4,
    a4 := Tryz.isAgg4,
    z4 := Tryz.sizeOf4,
    v4 := Tryz.zeroValue4,
    t5 := Tryz.underlying5,
    a5 := Tryz.isAgg5,
    z5 := Tryz.sizeOf5,
    v5 := Tryz.zeroValue5,
    t9 := Tryz.underlying9,
    a9 := Tryz.isAgg9,
    z9 := Tryz.sizeOf9,
    v9 := Tryz.zeroValue9,
    t28 := Tryz.underlying35,
    a28 := Tryz.isAgg35,
    z28 := Tryz.sizeOf35,
    v28 := Tryz.zeroValue35,
    t46 := Tryz.underlying97,
    a46 := Tryz.isAgg97,
    z46 := Tryz.sizeOf97,
    v46 := Tryz.zeroValue97,
    t51 := Tryz.underlying114,
    a51 := Tryz.isAgg114,
    z51 := Tryz.sizeOf114,
    v51 := Tryz.zeroValue114,
    t53 := Tryz.underlying116,
    a53 := Tryz.isAgg116,
    z53 := Tryz.sizeOf116,
    v53 := Tryz.zeroValue116,
    t131 := Tryz.underlying89,
    a131 := Tryz.isAgg89,
    z131 := Tryz.sizeOf89,
    v131 := Tryz.zeroValue89,
    t182 := Tryz.underlying106,
    a182 := Tryz.isAgg106,
    z182 := Tryz.sizeOf106,
    v182 := Tryz.zeroValue106,
    t183 := Tryz.underlying107,
    a183 := Tryz.isAgg107,
    z183 := Tryz.sizeOf107,
    v183 := Tryz.zeroValue107,
    t218 := Tryz.underlying120,
    a218 := Tryz.isAgg120,
    z218 := Tryz.sizeOf120,
    v218 := Tryz.zeroValue120,
    t222 := Tryz.underlying124,
    a222 := Tryz.isAgg124,
    z222 := Tryz.sizeOf124,
    v222 := Tryz.zeroValue124,
    t228 := Tryz.underlying132,
    a228 := Tryz.isAgg132,
    z228 := Tryz.sizeOf132,
    v228 := Tryz.zeroValue132,
    t229 := Tryz.underlying133,
    a229 := Tryz.isAgg133,
    z229 := Tryz.sizeOf133,
    v229 := Tryz.zeroValue133 }
/-- the numbers that the library's text has here -/
def csRen : Go.Shelf.Ren where
  f := fun x => match x with
    | 194 => 31
    | n => n
  t := fun x => match x with
    | 31 => 67
    | 9 => 9
    | 3 => 3
    | 4 => 4
    | 0 => 0
    | n => n
  g := fun x => x
theorem csLays : Go.Proofs.Lays.n194 Tryz.prog csRen :=
  { mixed := by kernel_rfl,
    f194 := Eq.trans Tryz.func31 (congrArg some rfl),
    t0 := Tryz.underlying0,
    a0 := Tryz.isAgg0,
    z0 := Tryz.sizeOf0,
    v0 := Tryz.zeroValue0,
    t3 := Tryz.underlying3,
    a3 := Tryz.isAgg3,
    z3 := Tryz.sizeOf3,
    v3 := Tryz.zeroValue3,
    t4 := Tryz.underlying4,
    a4 := Tryz.isAgg4,
    z4 := Tryz.sizeOf4,
    v4 := Tryz.zeroValue4,
    t9 := Tryz.underlying9,
    a9 := Tryz.isAgg9,
    z9 := Tryz.sizeOf9,
    v9 := Tryz.zeroValue9,
    t31 := Tryz.underlying67,
    a31 := Tryz.isAgg67,
    z31 := Tryz.sizeOf67,
    v31 := Tryz.zeroValue67 }
/-- the numbers that the library's text has here -/
def ciRen : Go.Shelf.Ren where
  f := fun x => match x with
    | 20 => 64
    | n => n
  t := fun x => match x with
    | 22 => 35
    | 3 => 3
    | 4 => 4
    | 0 => 0
    | n => n
  g := fun x => x
theorem ciLays : Go.Proofs.Lays2.n20 Tryz.prog ciRen :=
  { mixed := by kernel_rfl,
    f20 := Eq.trans Tryz.func64 (congrArg some rfl),
    t0 := Tryz.underlying0,
    a0 := Tryz.isAgg0,
    z0 := Tryz.sizeOf0,
    v0 := Tryz.zeroValue0,
    t3 := Tryz.underlying3,
    a3 := Tryz.isAgg3,
    z3 := Tryz.sizeOf3,
    v3 := Tryz.zeroValue3,
    t4 := Tryz.underlying4,
    a4 := Tryz.isAgg4,
    z4 := Tryz.sizeOf4,
    v4 := Tryz.zeroValue4,
    t22 := Tryz.underlying35,
    a22 := Tryz.isAgg35,
    z22 := Tryz.sizeOf35,
    v22 := Tryz.zeroValue35,
    i3 := by kernel_rfl }
/-- the numbers that the library's text has here -/
def ktRen : Go.Shelf.Ren where
  f := fun x => match x with
    | 7 => 44
    | 10 => 66
    | n => n
  t := fun x => match x with
    | 23 => 48
    | 26 => 9
    | 3 => 54
    | 28 => 84
    | 0 => 0
    | 27 => 83
    | 33 => 103
    | 4 => 4
    | n => n
  g := fun x => x
theorem ktLays : Go.Proofs.SlLaysZ.n7 Tryz.prog ktRen :=
  { mixed := by kernel_rfl,
    f7 := ⟨_, by kernel_rfl, Eq.trans Tryz.func44 (congrArg some rfl)⟩,
    f10 := ⟨_, by kernel_rfl, Eq.trans Tryz.func66 (congrArg some rfl)⟩,
    t0 := Tryz.underlying0,
    a0 := Tryz.isAgg0,
    z0 := Tryz.sizeOf0,
    v0 := Tryz.zeroValue0,
    t4 := Tryz.underlying4,
    a4 := Tryz.isAgg4,
    z4 := Tryz.sizeOf4,
    v4 := Tryz.zeroValue4,
    t23 := Tryz.underlying48,
    a23 := Tryz.isAgg48,
    z23 := Tryz.sizeOf48,
    v23 := Tryz.zeroValue48,
    t26 := Tryz.underlying9,
    a26 := Tryz.isAgg9,
    z26 := Tryz.sizeOf9,
    v26 := Tryz.zeroValue9,
    t27 := Tryz.underlying83,
    a27 := Tryz.isAgg83,
    z27 := Tryz.sizeOf83,
    v27 := Tryz.zeroValue83,
    t28 := Tryz.underlying84,
    a28 := Tryz.isAgg84,
    z28 := Tryz.sizeOf84,
    v28 := Tryz.zeroValue84,
    t33 := Tryz.underlying103,
    a33 := Tryz.isAgg103,
    z33 := Tryz.sizeOf103,
    v33 := Tryz.zeroValue103 }
/-- the numbers that the library's text has here -/
def dsRen : Go.Shelf.Ren where
  f := fun x => match x with
    | 6 => 43
    | 8 => 65
    | 9 => 30
    | 11 => 84
    | 13 => 56
    | 12 => 55
    | 23 => 80
    | 24 => 81
    | 14 => 71
    | 15 => 72
    | 16 => 73
    | 17 => 74
    | 18 => 75
    | 19 => 76
    | 20 => 77
    | 21 => 78
    | 22 => 79
    | 25 => 86
    | 26 => 87
    | 27 => 88
    | 28 => 89
    | 29 => 90
    | 30 => 91
    | 31 => 102
    | n => n
  t := fun x => match x with
    | 26 => 9
    | 28 => 84
    | 24 => 67
    | 0 => 0
    | 3 => 3
    | 37 => 97
    | 48 => 114
    | 50 => 116
    | 4 => 4
    | 40 => 107
    | 39 => 106
    | 45 => 89
    | 5 => 5
    | 9 => 9
    | 51 => 120
    | 55 => 124
    | 57 => 132
    | 58 => 133
    | 33 => 103
    | n => n
  g := fun x => x
theorem dsLays : Go.Proofs.SlLaysZ.n6 Tryz.prog dsRen :=
  { mixed := by kernel_rfl,
    f6 := ⟨_, by kernel_rfl, Eq.trans Tryz.func43 (congrArg some rfl)⟩,
    f8 := ⟨_, by kernel_rfl, Eq.trans Tryz.func65 (congrArg some rfl)⟩,
    f11 := ⟨_, by kernel_rfl, Eq.trans Tryz.func84 (congrArg some rfl)⟩,
    t0 := Tryz.underlying0,
    a0 := Tryz.isAgg0,
    z0 := Tryz.sizeOf0,
    v0 := Tryz.zeroValue0,
    t24 := Tryz.underlying67,
    a24 := Tryz.isAgg67,
    z24 := Tryz.sizeOf67,
    v24 := Tryz.zeroValue67,
    t26 := Tryz.underlying9,
    a26 := Tryz.isAgg9,
    z26 := Tryz.sizeOf9,
    v26 := Tryz.zeroValue9,
    t28 := Tryz.underlying84,
    a28 := Tryz.isAgg84,
    z28 := Tryz.sizeOf84,
    v28 := Tryz.zeroValue84,
    i26 := by kernel_rfl }
/-- the numbers that the library's text has here -/
def kiRen : Go.Shelf.Ren where
  f := fun x => match x with
    | 7 => 45
    | 10 => 67
    | n => n
  t := fun x => match x with
    | 23 => 56
    | 26 => 3
    | 3 => 3
    | 28 => 78
    | 0 => 0
    | 27 => 77
    | 33 => 53
    | 4 => 4
    | n => n
  g := fun x => x
theorem kiLays : Go.Proofs.SlLaysZI.n7 Tryz.prog kiRen :=
  { mixed := by kernel_rfl,
    f7 := ⟨_, by kernel_rfl, Eq.trans Tryz.func45 (congrArg some rfl)⟩,
    f10 := ⟨_, by kernel_rfl, Eq.trans Tryz.func67 (congrArg some rfl)⟩,
    t0 := Tryz.underlying0,
    a0 := Tryz.isAgg0,
    z0 := Tryz.sizeOf0,
    v0 := Tryz.zeroValue0,
    t4 := Tryz.underlying4,
    a4 := Tryz.isAgg4,
    z4 := Tryz.sizeOf4,
    v4 := Tryz.zeroValue4,
    t23 := Tryz.underlying56,
    a23 := Tryz.isAgg56,
    z23 := Tryz.sizeOf56,
    v23 := Tryz.zeroValue56,
    t26 := Tryz.underlying3,
    a26 := Tryz.isAgg3,
    z26 := Tryz.sizeOf3,
    v26 := Tryz.zeroValue3,
    t27 := Tryz.underlying77,
    a27 := Tryz.isAgg77,
    z27 := Tryz.sizeOf77,
    v27 := Tryz.zeroValue77,
    t28 := Tryz.underlying78,
    a28 := Tryz.isAgg78,
    z28 := Tryz.sizeOf78,
    v28 := Tryz.zeroValue78,
    t33 := Tryz.underlying53,
    a33 := Tryz.isAgg53,
    z33 := Tryz.sizeOf53,
    v33 := Tryz.zeroValue53 }
/-- the numbers that the library's text has here -/
def klRen : Go.Shelf.Ren where
  f := fun x => match x with
    | 7 => 40
    | 10 => 63
    | n => n
  t := fun x => match x with
    | 23 => 50
    | 26 => 3
    | 3 => 42
    | 28 => 78
    | 0 => 0
    | 27 => 77
    | 33 => 53
    | 4 => 4
    | n => n
  g := fun x => x
theorem klLays : Go.Proofs.SlLaysZI.n7 Tryz.prog klRen :=
  { mixed := by kernel_rfl,
    f7 := ⟨_, by kernel_rfl, Eq.trans Tryz.func40 (congrArg some rfl)⟩,
    f10 := ⟨_, by kernel_rfl, Eq.trans Tryz.func63 (congrArg some rfl)⟩,
    t0 := Tryz.underlying0,
    a0 := Tryz.isAgg0,
    z0 := Tryz.sizeOf0,
    v0 := Tryz.zeroValue0,
    t4 := Tryz.underlying4,
    a4 := Tryz.isAgg4,
    z4 := Tryz.sizeOf4,
    v4 := Tryz.zeroValue4,
    t23 := Tryz.underlying50,
    a23 := Tryz.isAgg50,
    z23 := Tryz.sizeOf50,
    v23 := Tryz.zeroValue50,
    t26 := Tryz.underlying3,
    a26 := Tryz.isAgg3,
    z26 := Tryz.sizeOf3,
    v26 := Tryz.zeroValue3,
    t27 := Tryz.underlying77,
    a27 := Tryz.isAgg77,
    z27 := Tryz.sizeOf77,
    v27 := Tryz.zeroValue77,
    t28 := Tryz.underlying78,
    a28 := Tryz.isAgg78,
    z28 := Tryz.sizeOf78,
    v28 := Tryz.zeroValue78,
    t33 := Tryz.underlying53,
    a33 := Tryz.isAgg53,
    z33 := Tryz.sizeOf53,
    v33 := Tryz.zeroValue53 }
/-- the numbers that the library's text has here -/
def diRen : Go.Shelf.Ren where
  f := fun x => match x with
    | 6 => 39
    | 8 => 61
    | 9 => 62
    | 11 => 82
    | 13 => 56
    | 12 => 83
    | 23 => 80
    | 24 => 81
    | 14 => 92
    | 15 => 93
    | 16 => 94
    | 17 => 95
    | 18 => 96
    | 19 => 97
    | 20 => 98
    | 21 => 99
    | 22 => 100
    | 25 => 103
    | 26 => 87
    | 27 => 88
    | 28 => 104
    | 29 => 105
    | 30 => 106
    | 31 => 107
    | n => n
  t := fun x => match x with
    | 26 => 3
    | 28 => 78
    | 24 => 35
    | 0 => 0
    | 3 => 3
    | 37 => 97
    | 48 => 114
    | 50 => 116
    | 4 => 4
    | 40 => 107
    | 39 => 106
    | 45 => 89
    | 5 => 5
    | 9 => 9
    | 51 => 120
    | 55 => 124
    | 57 => 132
    | 58 => 133
    | 33 => 53
    | n => n
  g := fun x => x
theorem diLays : Go.Proofs.SlLaysZI.n6 Tryz.prog diRen :=
  { mixed := by kernel_rfl,
    f6 := ⟨_, by kernel_rfl, Eq.trans Tryz.func39 (congrArg some rfl)⟩,
    f8 := ⟨_, by kernel_rfl, Eq.trans Tryz.func61 (congrArg some rfl)⟩,
    f11 := ⟨_, by kernel_rfl, Eq.trans Tryz.func82 (congrArg some rfl)⟩,
    t0 := Tryz.underlying0,
    a0 := Tryz.isAgg0,
    z0 := Tryz.sizeOf0,
    v0 := Tryz.zeroValue0,
    t24 := Tryz.underlying35,
    a24 := Tryz.isAgg35,
    z24 := Tryz.sizeOf35,
    v24 := Tryz.zeroValue35,
    t26 := Tryz.underlying3,
    a26 := Tryz.isAgg3,
    z26 := Tryz.sizeOf3,
    v26 := Tryz.zeroValue3,
    t28 := Tryz.underlying78,
    a28 := Tryz.isAgg78,
    z28 := Tryz.sizeOf78,
    v28 := Tryz.zeroValue78,
    i26 := by kernel_rfl }

end Go.Proofs.YtelfinhpjokmdaaGreatDoor

namespace Go.Proofs.YtelfinhpjokmdaaGreatDoor
set_option maxRecDepth 100000
open Go.RowKit Go.Joins Go.ChangeShapes Go.WideShapes
set_option linter.unusedVariables false
set_option linter.unnecessarySimpa false
set_option linter.unusedSimpArgs false

theorem QR.push16 {P : Program} {w : World} {B : Nat} {e : TypeId} {v : Value} {xs : List Value} (h : QR w B e v xs) (hB : B ≤ w.heap.size) {t ty : TypeId} {i : TypeInfo} {z : Value} (ht : P.underlying t = some (.slice e)) (hi : P.info? e = some i) (hz : i.zero = some z)
    (hs : i.size = 1) (hby : i.bytes ≤ 16) (hzs : z.cells.size = 1) (ad : Addr) (c : Nat) (x : Value) (hx : w.cell? ad = some x) (h1 : x.oneCell' = true) (hsz : xs.length + 1 ≤ 4398046511104) :
    ∃ v' w', (Builtin.append_ #[t, t] ty #[v, .slice (some ad) 1 c]).run P w = .ok v' w' ∧ QR w' B e v' (xs ++ [x]) ∧ w.grownBy w' v.ownBlock ∧ NewO w v v' := by
  have hnews : ∀ j u, [x][j]? = some u → w.cell? (ad.add j) = some u := by
    intro j u hj
    cases j with
    | zero =>
      simp at hj
      subst hj
      obtain ⟨b, o, s⟩ := ad
      have hsn : s = none := by simpa using World.cell?_spot hx
      subst hsn
      simpa [Addr.add] using hx
    | succ j => simp at hj
  have hml : xs.length + 1 ≤ maxLen := by unfold maxLen; omega
  have hb2 : (xs.length + 1) * i.bytes ≤ 140737488355328 := by
    have := Nat.mul_le_mul_left (xs.length + 1) hby
    omega
  have hone : ∀ u ∈ [x], u.oneCell' = true := by intro u hu; simp at hu; rw [hu]; exact h1
  rcases h with ⟨rfl, rfl⟩ | ⟨g, o, cap, cur, rfl, h2, h3, h4, h5, h6, h7⟩
  · obtain ⟨v', w', hr, g1, g2, g3⟩ := run_append_own (P := P) w w.heap.size t ty e i z 1 i.bytes ht hi hz hs rfl hzs (by decide) (.slice none 0 0) 0 [] (World.ownsRow_nil w _ e 1) ad 1 c [x] rfl hnews hone (by simpa using hml) (by simpa using hb2) (Nat.le_refl _)
    refine ⟨v', w', hr, (QR.of_own g1).le hB, g2, fun k hk => .inr (g1.lt k hk).1⟩
  · by_cases hroom : xs.length + 1 ≤ cap
    · have hcs : cur[o + xs.length]? = some (cur[o + xs.length]'(by omega)) := Array.getElem?_eq_getElem _
      have hr := run_append_room_cells (P := P) w t ty e i ht hi g o xs.length cap ad 1 c [x] (by simp [hs]) hnews hone hroom
        (fun j hj => by
          have hj0 : j = 0 := by simpa using hj
          subst hj0
          rw [hs, Nat.mul_one, Nat.add_zero, cell_of_block h3, hcs]; rfl) (fun j hj => unfrozen_of_block h3 _)
      refine ⟨_, _, hr, ?_, ?_, fun k hk => .inl hk⟩
      · have hw : w.setCells g (o + xs.length * i.size) [x] = w.setCell ⟨g, o + xs.length, none⟩ x := by rw [hs, Nat.mul_one]; rfl
        rw [hw]
        refine .inr ⟨g, o, cap, cur.set (o + xs.length) x (by omega), by simp, h2, ?_, by simpa using hroom, h5, by simpa using h6, fun i' u hu => ?_⟩
        · rw [setCell_eq_setRow w g (o + xs.length) cur _ _ x h3, setRow_heap w g _ _ _ _ h3]
          simp [Array.setIfInBounds, show o + xs.length < cur.size by omega]
        · rw [Array.getElem?_set]
          by_cases c : i' < xs.length
          · rw [List.getElem?_append_left c] at hu
            rw [if_neg (by omega)]
            exact h7 i' u hu
          · have hi' : i' = xs.length := by
              have := (List.getElem?_eq_some_iff.1 hu).1
              simp at this
              omega
            subst hi'
            rw [if_pos rfl]
            simpa using hu
      · refine ⟨rfl, rfl, rfl, by simp [World.setCells, World.setCell], fun k hk hne => ?_⟩
        exact heap_setCell_other w ⟨g, _, none⟩ k x (fun e => hne (by simp [Value.ownBlock, e]))
    · obtain ⟨v', w', hr, g1, g2⟩ := run_append_arg_grows (P := P) w t ty e i z 1 i.bytes ht hi hz hs rfl hzs (by decide) ⟨g, o, none⟩ xs.length cap xs (by simp)
        (fun j u hj => by
          have ea : (⟨g, o, none⟩ : Addr).add j = ⟨g, o + j, none⟩ := by unfold Addr.add; split <;> simp_all
          rw [ea, cell_of_block h3]
          exact h7 j u hj) ad 1 c [x] rfl hnews (by omega) hml hb2
      exact ⟨v', w', hr, (QR.of_own g1).le hB, ⟨g2.os, g2.tape, g2.output, g2.size, fun k hk _ => g2.block k hk (by simp)⟩, fun k hk => .inr (g1.lt k hk).1⟩


/-- a row that was rewritten in place -/
theorem QR.put {α : Type} [Inhabited α] {enc : α → Value} {w : World} {B : Nat} {e : TypeId} {g o n cap : Nat} {zs ys : List α} (h : QR w B e (.slice (some ⟨g, o, none⟩) n cap) (zs.map enc)) (hl : ys.length = zs.length) (q : Nat) (os : Array Obj) :
    QR (Go.Sort.grow (Go.Sort.putRow enc (Go.Sort.ahead w q) g o ys.toArray) os) B e (.slice (some ⟨g, o, none⟩) n cap) (ys.map enc) ∧ Frm (fun k => k = g) w (Go.Sort.grow (Go.Sort.putRow enc (Go.Sort.ahead w q) g o ys.toArray) os) := by
  rcases h with ⟨e1, -⟩ | ⟨g', o1, c, cur, e1, h2, h3, h4, h5, h6, h7⟩
  · cases e1
  · injection e1 with e1 e2 e3
    injection e1 with e1
    injection e1 with e1 e4
    subst e1 e2 e3 e4
    rw [List.length_map] at h4
    have hgl := (Array.getElem?_eq_some_iff.1 h3).1
    have hx : (Go.Sort.putRow enc (Go.Sort.ahead w q) g o ys.toArray).heap[g]? = some (.cells (Go.Sort.putCells enc o ys.toArray cur) e (0, 0)) := by
      unfold Go.Sort.putRow Go.Sort.mapBlock Go.Sort.ahead
      simp only [Array.getElem?_modify]
      rw [if_pos trivial, h3]
      rfl
    have hs : (Go.Sort.putRow enc (Go.Sort.ahead w q) g o ys.toArray).heap.size = w.heap.size := by
      unfold Go.Sort.putRow Go.Sort.mapBlock Go.Sort.ahead
      simp
    refine ⟨.inr ⟨g, o, cap, Go.Sort.putCells enc o ys.toArray cur, by rw [List.length_map, List.length_map, hl], h2, ?_, by rw [List.length_map, hl]; exact h4, h5, ?_, fun i u hu => ?_⟩, ?_⟩
    · rw [Go.Sort.heap_grow_old _ os (by rw [hs]; exact hgl)]
      exact hx
    · unfold Go.Sort.putCells; rw [Array.size_mapIdx]; exact h6
    · rw [List.getElem?_map, Option.map_eq_some_iff] at hu
      obtain ⟨y, hy, rfl⟩ := hu
      have hi := (List.getElem?_eq_some_iff.1 hy).1
      unfold Go.Sort.putCells
      rw [Array.getElem?_mapIdx, Array.getElem?_eq_getElem (show o + i < cur.size by omega), Option.map_some, if_pos ⟨by omega, by simp; omega⟩]
      have : ys.toArray[o + i - o]! = y := by
        rw [show o + i - o = i by omega, getElem!_pos _ _ (by simpa using hi)]
        rw [List.getElem?_eq_getElem hi] at hy
        simpa using hy
      rw [this]
    · refine ⟨rfl, rfl, rfl, ?_, fun k hk hne => ?_⟩
      · show w.heap.size ≤ (_ ++ os).size
        rw [Array.size_append]
        have : (Go.Sort.putRow enc (Go.Sort.ahead w q) g o ys.toArray).heap.size = w.heap.size := hs
        omega
      · rw [Go.Sort.heap_grow_old _ os (by rw [hs]; exact hk)]
        unfold Go.Sort.putRow Go.Sort.mapBlock Go.Sort.ahead
        simp only [Array.getElem?_modify]
        rw [if_neg (fun e => hne e.symm)]
theorem QR.holds {α : Type} [Inhabited α] {enc : α → Value} {w : World} {B : Nat} {e : TypeId} {g o n cap : Nat} {zs : List α} (h : QR w B e (.slice (some ⟨g, o, none⟩) n cap) (zs.map enc)) : n = zs.length ∧ n ≤ cap ∧ g < w.heap.size ∧ Go.Sort.Holds enc w g o zs.toArray := by
  rcases h with ⟨e1, -⟩ | ⟨g', o1, c, cur, e1, h2, h3, h4, h5, h6, h7⟩
  · cases e1
  · injection e1 with e1 e2 e3
    injection e1 with e1
    injection e1 with e1 e4
    subst e1 e2 e3 e4
    refine ⟨by rw [List.length_map], h4, (Array.getElem?_eq_some_iff.1 h3).1, fun j hj => ⟨?_, unfrozen_of_block h3 _⟩⟩
    have hj' : j < zs.length := by simpa using hj
    rw [cell_of_block h3]
    refine h7 j _ ?_
    rw [List.getElem?_map, List.getElem?_eq_getElem hj', Option.map_some, getElem!_pos zs.toArray j hj]
    simp
/-- texts in memory of the call's own -/
def QS (w : World) (B : Nat) (v : Value) (l : List (List UInt8)) : Prop := QR w B 9 v (l.map Go.Proofs.encStr)
/-- sorted in place -/
theorem sorts_any (w : World) (B : Nat) (v : Value) (l : List (List UInt8)) (h : QS w B v l) (hm : l.length < 4294967296) :
    Calls Tryz.prog 30 #[v] w fun e w' => e = .returned (.tuple #[]) ∧ QS w' B v (l.mergeSort fun x y => decide (x ≤ y)) ∧ Frm (fun k => v.ownBlock = some k) w w' := by
  unfold QS at h ⊢
  by_cases c : l = []
  · subst c
    rcases h with ⟨rfl, -⟩ | ⟨g, o, cap, cur, rfl, h2, h3, h4⟩
    · refine (Any.slices_Sort_string_none soLays none 0 w).mono ?_
      rintro e w' ⟨rfl, rfl⟩
      exact ⟨rfl, .inl ⟨rfl, by simp⟩, Frm.refl _ _⟩
    · refine (Any.slices_Sort_string_none soLays (some ⟨g, o, none⟩) cap w).mono ?_
      rintro e w' ⟨rfl, rfl⟩
      exact ⟨rfl, .inr ⟨g, o, cap, cur, by simp, h2, h3, by simpa using h4⟩, Frm.refl _ _⟩
  · have hp : 0 < l.length := by cases l with | nil => exact absurd rfl c | cons a r => simp
    obtain ⟨g, o, cap, rfl, -⟩ := QR.at h (by rw [List.length_map]; exact hp)
    rw [List.length_map] at h ⊢
    obtain ⟨h1, h2, h3, h4⟩ := h.holds
    refine (Any.slices_Sort_string soLays g o cap l w h4 h3 (by omega)).mono ?_
    rintro e w' ⟨rfl, n, os, rfl⟩
    obtain ⟨g1, g2⟩ := h.put (ys := l.mergeSort fun x y => decide (x ≤ y)) (List.length_mergeSort l) n os
    exact ⟨rfl, g1, g2.mono fun k hk => by rw [hk]; rfl⟩
theorem sorti_any (w : World) (B : Nat) (v : Value) (l : List Int) (h : QI w B v l) (hm : l.length < 4294967296) :
    Calls Tryz.prog 62 #[v] w fun e w' => e = .returned (.tuple #[]) ∧ QI w' B v (l.mergeSort fun x y => decide (x ≤ y)) ∧ Frm (fun k => v.ownBlock = some k) w w' := by
  unfold QI icells at h ⊢
  by_cases c : l = []
  · subst c
    rcases h with ⟨rfl, -⟩ | ⟨g, o, cap, cur, rfl, h2, h3, h4⟩
    · refine (Any.slices_Sort_int_none siLays none 0 w).mono ?_
      rintro e w' ⟨rfl, rfl⟩
      exact ⟨rfl, .inl ⟨rfl, by simp⟩, Frm.refl _ _⟩
    · refine (Any.slices_Sort_int_none siLays (some ⟨g, o, none⟩) cap w).mono ?_
      rintro e w' ⟨rfl, rfl⟩
      exact ⟨rfl, .inr ⟨g, o, cap, cur, by simp, h2, h3, by simpa using h4⟩, Frm.refl _ _⟩
  · have hp : 0 < l.length := by cases l with | nil => exact absurd rfl c | cons a r => simp
    obtain ⟨g, o, cap, rfl, -⟩ := QR.at h (by rw [List.length_map]; exact hp)
    rw [List.length_map] at h ⊢
    obtain ⟨h1, h2, h3, h4⟩ := QR.holds (enc := fun n : Int => Value.int .i64 n) h
    refine (Any.slices_Sort_int siLays g o cap l w h4 h3 (by omega)).mono ?_
    rintro e w' ⟨rfl, n, os, rfl⟩
    obtain ⟨g1, g2⟩ := QR.put (enc := fun n : Int => Value.int .i64 n) h (ys := l.mergeSort fun x y => decide (x ≤ y)) (List.length_mergeSort l) n os
    exact ⟨rfl, g1, g2.mono fun k hk => by rw [hk]; rfl⟩
/-- what compact leaves of a sorted list -/
theorem compact_lt {α : Type} [Inhabited α] [DecidableEq α] {lt : α → α → Prop} (tr : ∀ a b c, lt a b → lt b c → lt a c) {d : Array α} (hs : ∀ i j, i < j → j < d.size → lt d[i]! d[j]! ∨ d[i]! = d[j]!) :
    ∀ m, m ≤ d.size → (Lib.compactUpTo d m).Pairwise lt ∧ ∀ x, x ∈ Lib.compactUpTo d m ↔ ∃ j, j < m ∧ d[j]! = x
  | 0, _ => by
    unfold Lib.compactUpTo
    simp
  | m + 1, hm => by
    obtain ⟨h1, h2⟩ := compact_lt tr hs m (by omega)
    rw [Lib.compactUpTo_succ]
    cases hk : Lib.keeps d m with
    | true =>
      rw [if_pos rfl]
      refine ⟨List.pairwise_append.2 ⟨h1, by simp, fun a ha b hb => ?_⟩, fun x => ?_⟩
      · simp at hb
        rw [hb]
        obtain ⟨j, hj, rfl⟩ := (h2 a).1 ha
        have hne : d[m]! ≠ d[m - 1]! := by
          intro e
          rw [Lib.keeps_neg (by omega) e] at hk
          cases hk
        have hlast : lt d[m - 1]! d[m]! := by
          rcases hs (m - 1) m (by omega) (by omega) with g | g
          · exact g
          · exact absurd g.symm hne
        by_cases e : j = m - 1
        · rw [e]; exact hlast
        · rcases hs j (m - 1) (by omega) (by omega) with g | g
          · exact tr _ _ _ g hlast
          · rw [g]; exact hlast
      · rw [List.mem_append, List.mem_singleton, h2]
        constructor
        · rintro (⟨j, hj, e⟩ | e)
          · exact ⟨j, by omega, e⟩
          · exact ⟨m, by omega, e.symm⟩
        · rintro ⟨j, hj, e⟩
          by_cases c : j = m
          · right; rw [← e, c]
          · left; exact ⟨j, by omega, e⟩
    | false =>
      rw [if_neg (by simp), List.append_nil]
      refine ⟨h1, fun x => ?_⟩
      rw [h2]
      have hm0 : 0 < m := by
        rcases Nat.eq_zero_or_pos m with e | e
        · rw [e, Lib.keeps_lt_one d 0 (by omega)] at hk; cases hk
        · exact e
      have he : d[m]! = d[m - 1]! := by
        refine Decidable.byContradiction fun hne => ?_
        rw [Lib.keeps_pos hne] at hk
        cases hk
      constructor
      · rintro ⟨j, hj, e⟩
        exact ⟨j, by omega, e⟩
      · rintro ⟨j, hj, e⟩
        by_cases c : j = m
        · exact ⟨m - 1, by omega, by rw [← e, c, he]⟩
        · exact ⟨j, by omega, e⟩
theorem compact_sorted {α : Type} [Inhabited α] [DecidableEq α] {lt : α → α → Prop} (tr : ∀ a b c, lt a b → lt b c → lt a c) {l : List α} (hs : l.Pairwise fun a b => lt a b ∨ a = b) : (Lib.compact l).Pairwise lt ∧ ∀ x, x ∈ Lib.compact l ↔ x ∈ l := by
  have hg : ∀ i (hi : i < l.length), l.toArray[i]! = l[i] := fun i hi => by
    rw [getElem!_pos _ _ (by simpa using hi)]; simp
  obtain ⟨h1, h2⟩ := compact_lt tr (d := l.toArray) (fun i j hij hj => by
    have hj' : j < l.length := by simpa using hj
    rw [hg i (by omega), hg j hj']
    exact List.pairwise_iff_getElem.1 hs i j (by omega) hj' hij) l.length (by simp)
  refine ⟨h1, fun x => ?_⟩
  unfold Lib.compact
  rw [h2]
  constructor
  · rintro ⟨j, hj, rfl⟩
    rw [hg j hj]
    exact List.getElem_mem _
  · intro hx
    obtain ⟨j, hj, rfl⟩ := List.mem_iff_getElem.1 hx
    exact ⟨j, hj, hg j hj⟩
theorem compact_le {α : Type} [Inhabited α] [DecidableEq α] (l : List α) : (Lib.compact l).length ≤ l.length := by
  unfold Lib.compact Lib.compactUpTo
  rw [List.length_map]
  have := List.length_filter_le (Lib.keeps l.toArray) (List.range l.length)
  rw [List.length_range] at this
  exact this
/-- sorted, then each once: of texts -/
def ordS (l : List (List UInt8)) : List (List UInt8) := Lib.compact (l.mergeSort fun x y => decide (x ≤ y))
theorem ordS_spec (l : List (List UInt8)) : (ordS l).Pairwise (fun a b => ordT.lt a b = true) ∧ ∀ x, x ∈ ordS l ↔ x ∈ l := by
  have hs : (l.mergeSort fun x y => decide (x ≤ y)).Pairwise (fun a b => ordT.lt a b = true ∨ a = b) := by
    refine (List.pairwise_mergeSort (le := fun x y : List UInt8 => decide (x ≤ y)) (fun a b c h1 h2 => ?_) (fun a b => ?_) l).imp fun {a b} h => ?_
    · simp only [decide_eq_true_eq] at *; exact List.le_trans h1 h2
    · simp only [Bool.or_eq_true, decide_eq_true_eq]; exact List.le_total a b
    · simp only [decide_eq_true_eq] at h
      rcases u8_tot a b with g | g | g
      · exact .inl (decide_eq_true g)
      · exact .inr g
      · exact absurd g (List.not_lt.2 h)
  obtain ⟨h1, h2⟩ := compact_sorted (lt := fun a b => ordT.lt a b = true) ordT.tr hs
  exact ⟨h1, fun x => by unfold ordS; rw [h2]; exact (List.mergeSort_perm l _).mem_iff⟩
/-- of whole numbers -/
def ordI (l : List Int) : List Int := Lib.compact (l.mergeSort fun x y => decide (x ≤ y))
theorem ordI_spec (l : List Int) : (ordI l).Pairwise (fun a b => a < b) ∧ ∀ x, x ∈ ordI l ↔ x ∈ l := by
  have hs : (l.mergeSort fun x y => decide (x ≤ y)).Pairwise (fun a b => a < b ∨ a = b) := by
    refine (List.pairwise_mergeSort (le := fun x y : Int => decide (x ≤ y)) (fun a b c h1 h2 => ?_) (fun a b => ?_) l).imp fun {a b} h => ?_
    · simp only [decide_eq_true_eq] at *; omega
    · simp only [Bool.or_eq_true, decide_eq_true_eq]; omega
    · simp only [decide_eq_true_eq] at h; omega
  obtain ⟨h1, h2⟩ := compact_sorted (lt := fun a b : Int => a < b) (fun a b c h g => by omega) hs
  exact ⟨h1, fun x => by unfold ordI; rw [h2]; exact (List.mergeSort_perm l _).mem_iff⟩
theorem QR.own_eq {w : World} {B : Nat} {e : TypeId} {v v' : Value} {n n' cap : Nat} {a : Option Addr} (h : v = .slice a n cap) (h' : v' = .slice a n' cap) : v'.ownBlock = v.ownBlock := by
  subst h h'
  cases a <;> rfl
theorem compacts_any (w : World) (B : Nat) (v : Value) (l : List (List UInt8)) (h : QS w B v l) (hm : l.length < 4294967296) :
    Calls Tryz.prog 31 #[v] w fun e w' => ∃ v', e = .returned v' ∧ QS w' B v' (Lib.compact l) ∧ v'.ownBlock = v.ownBlock ∧ Frm (fun k => v.ownBlock = some k) w w' := by
  unfold QS at h ⊢
  by_cases c : l = []
  · subst c
    rcases h with ⟨rfl, -⟩ | ⟨g, o, cap, cur, rfl, h2, h3, h4⟩
    · refine (Any.slices_Compact_string_empty csLays none 0 w).mono ?_
      rintro e w' ⟨rfl, rfl⟩
      exact ⟨_, rfl, .inl ⟨rfl, rfl⟩, rfl, Frm.refl _ _⟩
    · refine (Any.slices_Compact_string_empty csLays (some ⟨g, o, none⟩) cap w).mono ?_
      rintro e w' ⟨rfl, rfl⟩
      exact ⟨_, rfl, .inr ⟨g, o, cap, cur, rfl, h2, h3, h4⟩, rfl, Frm.refl _ _⟩
  · have hp : 0 < l.length := by cases l with | nil => exact absurd rfl c | cons a r => simp
    obtain ⟨g, o, cap, rfl, -⟩ := QR.at h (by rw [List.length_map]; exact hp)
    rw [List.length_map] at h ⊢
    obtain ⟨h1, h2, h3, h4⟩ := h.holds
    refine (Any.slices_Compact_string csLays g o cap l w h4 (by omega) (by omega)).mono ?_
    rintro e w' ⟨rfl, q, rfl⟩
    have hl := compact_le l
    obtain ⟨g1, g2⟩ := h.put (ys := Lib.compact l ++ List.replicate (l.length - (Lib.compact l).length) []) (by rw [List.length_append, List.length_replicate]; omega) q #[]
    rw [Go.Sort.grow_empty] at g1 g2
    have g3 := QR.cut g1 (Lib.compact l).length (by rw [List.length_map, List.length_append]; omega)
    rw [← List.map_take, List.take_left' rfl] at g3
    exact ⟨_, rfl, g3, rfl, g2.mono fun k hk => by rw [hk]; rfl⟩
theorem compacti_any (w : World) (B : Nat) (v : Value) (l : List Int) (h : QI w B v l) (hm : l.length < 4294967296) :
    Calls Tryz.prog 64 #[v] w fun e w' => ∃ v', e = .returned v' ∧ QI w' B v' (Lib.compact l) ∧ v'.ownBlock = v.ownBlock ∧ Frm (fun k => v.ownBlock = some k) w w' := by
  unfold QI icells at h ⊢
  by_cases c : l = []
  · subst c
    rcases h with ⟨rfl, -⟩ | ⟨g, o, cap, cur, rfl, h2, h3, h4⟩
    · refine (Any.slices_Compact_int_empty ciLays none 0 w).mono ?_
      rintro e w' ⟨rfl, rfl⟩
      exact ⟨_, rfl, .inl ⟨rfl, rfl⟩, rfl, Frm.refl _ _⟩
    · refine (Any.slices_Compact_int_empty ciLays (some ⟨g, o, none⟩) cap w).mono ?_
      rintro e w' ⟨rfl, rfl⟩
      exact ⟨_, rfl, .inr ⟨g, o, cap, cur, rfl, h2, h3, h4⟩, rfl, Frm.refl _ _⟩
  · have hp : 0 < l.length := by cases l with | nil => exact absurd rfl c | cons a r => simp
    obtain ⟨g, o, cap, rfl, -⟩ := QR.at h (by rw [List.length_map]; exact hp)
    rw [List.length_map] at h ⊢
    obtain ⟨h1, h2, h3, h4⟩ := QR.holds (enc := fun n : Int => Value.int .i64 n) h
    refine (Any.slices_Compact_int ciLays g o cap l w h4 (by omega) (by omega)).mono ?_
    rintro e w' ⟨rfl, q, rfl⟩
    have hl := compact_le l
    obtain ⟨g1, g2⟩ := QR.put (enc := fun n : Int => Value.int .i64 n) h (ys := Lib.compact l ++ List.replicate (l.length - (Lib.compact l).length) 0) (by rw [List.length_append, List.length_replicate]; omega) q #[]
    rw [Go.Sort.grow_empty] at g1 g2
    have g3 := QR.cut g1 (Lib.compact l).length (by rw [List.length_map, List.length_append]; omega)
    rw [← List.map_take, List.take_left' rfl] at g3
    exact ⟨_, rfl, g3, rfl, g2.mono fun k hk => by rw [hk]; rfl⟩

end Go.Proofs.YtelfinhpjokmdaaGreatDoor

namespace Go.Proofs.YtelfinhpjokmdaaGreatDoor
set_option maxRecDepth 100000
open Go.RowKit Go.Joins Go.ChangeShapes Go.WideShapes Go.Maps Go.Shelf
set_option linter.unusedVariables false
set_option linter.unnecessarySimpa false
set_option linter.unusedSimpArgs false

/-- texts as keys, as lists of bytes -/
theorem ek_key (s : List UInt8) : Go.MapKept.IsKey .string (Go.Proofs.encStr s) := trivial
theorem ek_inj (s s' : List UInt8) (h : Go.Proofs.encStr s = Go.Proofs.encStr s') : s = s' := encStr_inj h
/-- no look at the values -/
def R0 : Value → Option (DataW Unit × List MemPlace) := fun _ => some (.nil, [])
theorem IMap.ownsI {P : Program} {k : TypeId} (hk : P.underlying k = some (.int .i64)) {w : World} {b n : Nat} {f : Int → Option Value} (h : IMap (.int .i64) ik w b f n) (hr : ∀ x v, f x = some v → (Lit.int .i64 x).wf = true) (hn : n ≤ maxLen) :
    ∃ D0 : DataW Unit, w.ownsMap P k R0 b n D0 ∧ Maps.size D0 = n ∧ (intKeys D0).Nodup ∧ ∀ x, x ∈ intKeys D0 ↔ (f x).isSome = true := by
  obtain ⟨es, clock, h1, h2, h3, h4, rfl⟩ := h
  have hkey : ∀ e ∈ es.toList, ∃ x, e.key = ik x ∧ keyOf P k e.key = some (.int .i64 x) := fun e he => by
    obtain ⟨x, hx⟩ := h3 e he
    have := hr x e.val ((h4 x e.val).2 ⟨e, he, hx, rfl⟩)
    exact ⟨x, hx, by rw [hx]; exact Maps.keyOf_int_mk hk this⟩
  have hrg : ∀ e ∈ es.toList, ∀ x, e.key = ik x → Go.WideElems.rg P k R0 e = (Lit.int .i64 x, (.nil : DataW Unit)) := fun e he x hx => by
    obtain ⟨y, hy, hko⟩ := hkey e he
    rw [hx] at hy
    obtain rfl := ik_inj _ _ hy
    exact Go.WideElems.rg_of (by unfold Go.WideElems.rd; rw [hko]; rfl)
  have hown : w.ownsMap P k R0 b es.size (.map ((es.toList.map (Go.WideElems.rg P k R0)).foldr DataW.insert [])) :=
    ⟨es, clock, h1, ⟨hn, h2, fun x hx => by obtain ⟨y, hy, hko⟩ := hkey x hx; exact ⟨_, by unfold Go.WideElems.rd; rw [hko]; rfl⟩⟩, Nat.le_refl _, rfl⟩
  refine ⟨_, hown, ?_, ?_, fun x => ?_⟩
  · show (List.foldr DataW.insert [] _).length = _
    rw [length_sorted, List.length_map, Array.length_toList]
  · obtain ⟨es', he, hp, hl⟩ := hown.entries (int_keyed hk)
    injection he with he
    show (List.map _ _).Nodup
    rw [he]
    refine List.pairwise_map.2 (hp.imp_of_mem fun {p q} hp' hq' hne e => hne ?_)
    rw [← he] at hp' hq'
    obtain ⟨a, ha, rfl⟩ := List.mem_map.1 (mem_sorted.1 hp')
    obtain ⟨c, hc, rfl⟩ := List.mem_map.1 (mem_sorted.1 hq')
    obtain ⟨xa, hxa, -⟩ := hkey a ha
    obtain ⟨xc, hxc, -⟩ := hkey c hc
    rw [hrg a ha xa hxa, hrg c hc xc hxc] at e ⊢
    exact congrArg (Lit.int .i64) e
  · show x ∈ List.map _ _ ↔ _
    rw [List.mem_map]
    constructor
    · rintro ⟨p, hp, rfl⟩
      obtain ⟨a, ha, rfl⟩ := List.mem_map.1 (mem_sorted.1 hp)
      obtain ⟨xa, hxa, -⟩ := hkey a ha
      rw [hrg a ha xa hxa]
      show (f xa).isSome = true
      rw [(h4 xa a.val).2 ⟨a, ha, hxa, rfl⟩]; rfl
    · intro hx
      obtain ⟨v, hv⟩ := Option.isSome_iff_exists.1 hx
      obtain ⟨e, he, hk', rfl⟩ := (h4 x v).1 hv
      exact ⟨_, mem_sorted.2 (List.mem_map.2 ⟨e, he, rfl⟩), by rw [hrg e he x hk']; rfl⟩
theorem IMap.ownsS {P : Program} {k : TypeId} (hk : P.underlying k = some .string) {w : World} {b n : Nat} {f : List UInt8 → Option Value} (h : IMap .string Go.Proofs.encStr w b f n) (hr : ∀ x v, f x = some v → x.length ≤ maxLen) (hn : n ≤ maxLen) :
    ∃ D0 : DataW Unit, w.ownsMap P k R0 b n D0 ∧ Maps.size D0 = n ∧ (strKeys D0).Nodup ∧ ∀ x, x ∈ strKeys D0 ↔ (f x).isSome = true := by
  obtain ⟨es, clock, h1, h2, h3, h4, rfl⟩ := h
  have hkey : ∀ e ∈ es.toList, ∃ x, e.key = Go.Proofs.encStr x ∧ keyOf P k e.key = some (.string x) := fun e he => by
    obtain ⟨x, hx⟩ := h3 e he
    have := hr x e.val ((h4 x e.val).2 ⟨e, he, hx, rfl⟩)
    refine ⟨x, hx, ?_⟩
    rw [hx]
    have h' : x.toArray.size ≤ maxLen := by simpa using this
    have h2 : (⟨x.toArray⟩ : ByteArray).size ≤ maxLen := h'
    simp [keyOf, hk, mapKey, h2]
  have hrg : ∀ e ∈ es.toList, ∀ x, e.key = Go.Proofs.encStr x → Go.WideElems.rg P k R0 e = (Lit.string x, (.nil : DataW Unit)) := fun e he x hx => by
    obtain ⟨y, hy, hko⟩ := hkey e he
    rw [hx] at hy
    obtain rfl := ek_inj _ _ hy
    exact Go.WideElems.rg_of (by unfold Go.WideElems.rd; rw [hko]; rfl)
  have hown : w.ownsMap P k R0 b es.size (.map ((es.toList.map (Go.WideElems.rg P k R0)).foldr DataW.insert [])) :=
    ⟨es, clock, h1, ⟨hn, h2, fun x hx => by obtain ⟨y, hy, hko⟩ := hkey x hx; exact ⟨_, by unfold Go.WideElems.rd; rw [hko]; rfl⟩⟩, Nat.le_refl _, rfl⟩
  refine ⟨_, hown, ?_, ?_, fun x => ?_⟩
  · show (List.foldr DataW.insert [] _).length = _
    rw [length_sorted, List.length_map, Array.length_toList]
  · obtain ⟨es', he, hp, hl⟩ := hown.entries (string_keyed hk)
    injection he with he
    show (List.map _ _).Nodup
    rw [he]
    refine List.pairwise_map.2 (hp.imp_of_mem fun {p q} hp' hq' hne e => hne ?_)
    rw [← he] at hp' hq'
    obtain ⟨a, ha, rfl⟩ := List.mem_map.1 (mem_sorted.1 hp')
    obtain ⟨c, hc, rfl⟩ := List.mem_map.1 (mem_sorted.1 hq')
    obtain ⟨xa, hxa, -⟩ := hkey a ha
    obtain ⟨xc, hxc, -⟩ := hkey c hc
    rw [hrg a ha xa hxa, hrg c hc xc hxc] at e ⊢
    exact congrArg Lit.string e
  · show x ∈ List.map _ _ ↔ _
    rw [List.mem_map]
    constructor
    · rintro ⟨p, hp, rfl⟩
      obtain ⟨a, ha, rfl⟩ := List.mem_map.1 (mem_sorted.1 hp)
      obtain ⟨xa, hxa, -⟩ := hkey a ha
      rw [hrg a ha xa hxa]
      show (f xa).isSome = true
      rw [(h4 xa a.val).2 ⟨a, ha, hxa, rfl⟩]; rfl
    · intro hx
      obtain ⟨v, hv⟩ := Option.isSome_iff_exists.1 hx
      obtain ⟨e, he, hk', rfl⟩ := (h4 x v).1 hv
      exact ⟨_, mem_sorted.2 (List.mem_map.2 ⟨e, he, rfl⟩), by rw [hrg e he x hk']; rfl⟩

theorem nodup_sortI {l : List Int} (h : l.Nodup) : (l.mergeSort fun x y => decide (x ≤ y)).Pairwise (fun a b => a < b) := by
  have h1 : (l.mergeSort fun x y => decide (x ≤ y)).Pairwise (fun a b => a ≤ b) := by
    refine (List.pairwise_mergeSort (le := fun x y : Int => decide (x ≤ y)) (fun a b c h1 h2 => ?_) (fun a b => ?_) l).imp fun {a b} h => ?_
    · simp only [decide_eq_true_eq] at *; omega
    · simp only [Bool.or_eq_true, decide_eq_true_eq]; omega
    · simpa using h
  have h2 : (l.mergeSort fun x y => decide (x ≤ y)).Nodup := (List.mergeSort_perm l _).nodup_iff.2 h
  exact (List.Pairwise.and h1 h2).imp fun {a b} h => by have := h.1; have := h.2; omega
theorem nodup_sortS {l : List (List UInt8)} (h : l.Nodup) : (l.mergeSort fun x y => decide (x ≤ y)).Pairwise (fun a b => ordT.lt a b = true) := by
  have h1 : (l.mergeSort fun x y => decide (x ≤ y)).Pairwise (fun a b => a ≤ b) := by
    refine (List.pairwise_mergeSort (le := fun x y : List UInt8 => decide (x ≤ y)) (fun a b c h1 h2 => ?_) (fun a b => ?_) l).imp fun {a b} h => ?_
    · simp only [decide_eq_true_eq] at *; exact List.le_trans h1 h2
    · simp only [Bool.or_eq_true, decide_eq_true_eq]; exact List.le_total a b
    · simpa using h
  have h2 : (l.mergeSort fun x y => decide (x ≤ y)).Nodup := (List.mergeSort_perm l _).nodup_iff.2 h
  refine (List.Pairwise.and h1 h2).imp fun {a b} h => ?_
  rcases u8_tot a b with g | g | g
  · exact decide_eq_true g
  · exact absurd g h.2
  · exact absurd g (List.not_lt.2 h.1)

/-- the keys of a map of whole numbers' modes -/
theorem keysM_any (mb : Option Nat) (W : World) : Calls Tryz.prog 45 #[.map mb] W fun e w' => e = .returned (.func (.func 67) #[] #[.pointer (some ⟨W.heap.size, 0, none⟩)]) ∧ w' = W.alloc (.cells #[.map mb] 56) :=
  (callsIn_wide (n := 5)).1 (AnyZI.keys_in kiLays Fence.wide 5 trivial rfl mb W)
/-- the keys of a map of wishes -/
theorem keysL_any (mb : Option Nat) (W : World) : Calls Tryz.prog 40 #[.map mb] W fun e w' => e = .returned (.func (.func 63) #[] #[.pointer (some ⟨W.heap.size, 0, none⟩)]) ∧ w' = W.alloc (.cells #[.map mb] 50) :=
  (callsIn_wide (n := 5)).1 (AnyZI.keys_in klLays Fence.wide 5 trivial rfl mb W)
/-- the keys of a map of things -/
theorem keysT_any (mb : Option Nat) (W : World) : Calls Tryz.prog 44 #[.map mb] W fun e w' => e = .returned (.func (.func 66) #[] #[.pointer (some ⟨W.heap.size, 0, none⟩)]) ∧ w' = W.alloc (.cells #[.map mb] 48) :=
  (callsIn_wide (n := 5)).1 (AnyZ.keys_in ktLays Fence.wide 5 trivial rfl mb W)
theorem sortsInI (m : Nat) : AnyZI.SortsIn Tryz.prog diRen Fence.wide m :=
  ⟨fun blk off cap ss W hH hblk hsz => callsIn_wide.2 (Any.slices_Sort_int siLays blk off cap ss W hH hblk hsz),
   fun p cap W => callsIn_wide.2 (Any.slices_Sort_int_none siLays p cap W)⟩
theorem sortsInS (m : Nat) : AnyZ.SortsIn Tryz.prog dsRen Fence.wide m :=
  ⟨fun blk off cap ss W hH hblk hsz => callsIn_wide.2 (Any.slices_Sort_string soLays blk off cap ss W hH hblk hsz),
   fun p cap W => callsIn_wide.2 (Any.slices_Sort_string_none soLays p cap W)⟩
theorem sortedM_any (w w1 : World) (b n : Nat) (f : Int → Option Value) (h : IMap (.int .i64) ik w b f n) (hr : ∀ x v, f x = some v → (Lit.int .i64 x).wf = true) (hn : n ≤ 4294967296) (g : Nat) (hg : w.heap.size = g) (hw : w.alloc (.cells #[.map (some b)] 56) = w1) :
    Calls Tryz.prog 39 #[.func (.func 67) #[] #[.pointer (some ⟨g, 0, none⟩)]] w1 fun e w' => ∃ v l, e = .returned v ∧ l.Pairwise (fun a b => a < b) ∧ (∀ x, x ∈ l ↔ (f x).isSome = true) ∧ QI w' w1.heap.size v l ∧ Below w1.heap.size w1 w' := by
  subst hg hw
  obtain ⟨D0, hown, hsz, hnd, hmem⟩ := (h.below ((Below.refl _ _).alloc (Nat.le_refl _) (.cells #[.map (some b)] 56))).ownsI (P := Tryz.prog) (k := 3) Tryz.underlying3 hr (by unfold maxLen; omega)
  refine (callsIn_wide (n := 6)).1 ?_
  have hseq : SeqGives Fence.wide 3 Tryz.prog 67 #[.pointer (some ⟨w.heap.size, 0, none⟩)] Go.encZ (fun ss => ss.Perm (intKeys D0)) (Maps.size D0) (w.alloc (.cells #[.map (some b)] 56)) :=
    AnyZI.keys_gives (ρ := kiRen) { kiLays with } Fence.wide _ trivial rfl (by omega) w.heap.size b n D0 _ (by simp) (by simp) hown
  have cS := AnyZI.sorted_in diLays Fence.wide 6 trivial trivial trivial trivial rfl (by omega) (sortsInI _) (enters_of Tryz.func62 (by kernel_rfl) rfl) 67 #[.pointer (some ⟨w.heap.size, 0, none⟩)] trivial (enters_of Tryz.func67 (by kernel_rfl) rfl) _ (Maps.size D0) (by rw [hsz]; unfold maxLen; omega) (by rw [hsz]; omega) _ hseq
  change CallsIn _ _ _ 39 _ _ _ at cS
  refine cS.mono ?_
  rintro e w' ⟨v, ss, rfl, hp, hrow, -, hb⟩
  have hnd2 : ss.Nodup := hp.nodup_iff.2 hnd
  refine ⟨v, ss.mergeSort fun x y => decide (x ≤ y), rfl, nodup_sortI hnd2, fun x => by rw [(List.mergeSort_perm ss _).mem_iff, hp.mem_iff, hmem], QR.of_own hrow, hb⟩
theorem sortedL_any (w w1 : World) (b n : Nat) (f : Int → Option Value) (h : IMap (.int .i64) ik w b f n) (hr : ∀ x v, f x = some v → (Lit.int .i64 x).wf = true) (hn : n ≤ 4294967296) (g : Nat) (hg : w.heap.size = g) (hw : w.alloc (.cells #[.map (some b)] 50) = w1) :
    Calls Tryz.prog 39 #[.func (.func 63) #[] #[.pointer (some ⟨g, 0, none⟩)]] w1 fun e w' => ∃ v l, e = .returned v ∧ l.Pairwise (fun a b => a < b) ∧ (∀ x, x ∈ l ↔ (f x).isSome = true) ∧ QI w' w1.heap.size v l ∧ Below w1.heap.size w1 w' := by
  subst hg hw
  obtain ⟨D0, hown, hsz, hnd, hmem⟩ := (h.below ((Below.refl _ _).alloc (Nat.le_refl _) (.cells #[.map (some b)] 50))).ownsI (P := Tryz.prog) (k := 3) Tryz.underlying3 hr (by unfold maxLen; omega)
  refine (callsIn_wide (n := 6)).1 ?_
  have hseq : SeqGives Fence.wide 3 Tryz.prog 63 #[.pointer (some ⟨w.heap.size, 0, none⟩)] Go.encZ (fun ss => ss.Perm (intKeys D0)) (Maps.size D0) (w.alloc (.cells #[.map (some b)] 50)) :=
    AnyZI.keys_gives (ρ := klRen) { klLays with } Fence.wide _ trivial rfl (by omega) w.heap.size b n D0 _ (by simp) (by simp) hown
  have cS := AnyZI.sorted_in diLays Fence.wide 6 trivial trivial trivial trivial rfl (by omega) (sortsInI _) (enters_of Tryz.func62 (by kernel_rfl) rfl) 63 #[.pointer (some ⟨w.heap.size, 0, none⟩)] trivial (enters_of Tryz.func63 (by kernel_rfl) rfl) _ (Maps.size D0) (by rw [hsz]; unfold maxLen; omega) (by rw [hsz]; omega) _ hseq
  change CallsIn _ _ _ 39 _ _ _ at cS
  refine cS.mono ?_
  rintro e w' ⟨v, ss, rfl, hp, hrow, -, hb⟩
  have hnd2 : ss.Nodup := hp.nodup_iff.2 hnd
  refine ⟨v, ss.mergeSort fun x y => decide (x ≤ y), rfl, nodup_sortI hnd2, fun x => by rw [(List.mergeSort_perm ss _).mem_iff, hp.mem_iff, hmem], QR.of_own hrow, hb⟩
theorem sortedT_any (w w1 : World) (b n : Nat) (f : List UInt8 → Option Value) (h : IMap .string Go.Proofs.encStr w b f n) (hr : ∀ x v, f x = some v → x.length ≤ maxLen) (hn : n ≤ 4294967296) (g : Nat) (hg : w.heap.size = g) (hw : w.alloc (.cells #[.map (some b)] 48) = w1) :
    Calls Tryz.prog 43 #[.func (.func 66) #[] #[.pointer (some ⟨g, 0, none⟩)]] w1 fun e w' => ∃ v l, e = .returned v ∧ l.Pairwise (fun a b => ordT.lt a b = true) ∧ (∀ x, x ∈ l ↔ (f x).isSome = true) ∧ QS w' w1.heap.size v l ∧ Below w1.heap.size w1 w' := by
  subst hg hw
  obtain ⟨D0, hown, hsz, hnd, hmem⟩ := (h.below ((Below.refl _ _).alloc (Nat.le_refl _) (.cells #[.map (some b)] 48))).ownsS (P := Tryz.prog) (k := 9) Tryz.underlying9 hr (by unfold maxLen; omega)
  refine (callsIn_wide (n := 6)).1 ?_
  have hseq : SeqGives Fence.wide 3 Tryz.prog 66 #[.pointer (some ⟨w.heap.size, 0, none⟩)] Go.Proofs.encStr (fun ss => ss.Perm (strKeys D0)) (Maps.size D0) (w.alloc (.cells #[.map (some b)] 48)) :=
    AnyZ.keys_gives (ρ := ktRen) { ktLays with } Fence.wide _ trivial rfl (by omega) w.heap.size b n D0 _ (by simp) (by simp) hown
  have cS := AnyZ.sorted_in dsLays Fence.wide 6 trivial trivial trivial trivial rfl (by omega) (sortsInS _) (enters_of Tryz.func30 (by kernel_rfl) rfl) 66 #[.pointer (some ⟨w.heap.size, 0, none⟩)] trivial (enters_of Tryz.func66 (by kernel_rfl) rfl) _ (Maps.size D0) (by rw [hsz]; unfold maxLen; omega) (by rw [hsz]; omega) _ hseq
  change CallsIn _ _ _ 43 _ _ _ at cS
  refine cS.mono ?_
  rintro e w' ⟨v, ss, rfl, hp, hrow, -, hb⟩
  have hnd2 : ss.Nodup := hp.nodup_iff.2 hnd
  refine ⟨v, ss.mergeSort fun x y => decide (x ≤ y), rfl, nodup_sortS hnd2, fun x => by rw [(List.mergeSort_perm ss _).mem_iff, hp.mem_iff, hmem], QR.of_own hrow, hb⟩

end Go.Proofs.YtelfinhpjokmdaaGreatDoor
