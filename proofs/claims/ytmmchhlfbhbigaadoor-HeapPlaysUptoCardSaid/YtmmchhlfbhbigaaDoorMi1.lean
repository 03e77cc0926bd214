/-
  Texts of mine put together, in build order.
  Conditions: as each declaration says.
-/
import Derived.Test.YtmmchhlfbhbigaaDoorMh1
namespace Go.Proofs.YtmmchhlfbhbigaaDoor
set_option maxRecDepth 100000
open Go.RowKit Go.Joins Go.ChangeShapes Go.WideShapes
set_option linter.unusedVariables false
set_option linter.unusedSimpArgs false

theorem set_same {α : Type} : ∀ {l : List α} {i : Nat} {a : α}, l[i]? = some a → l.set i a = l
  | [], i, a, h => by simp at h
  | x :: l, 0, a, h => by simp only [List.getElem?_cons_zero, Option.some.injEq] at h; subst h; rfl
  | x :: l, i + 1, a, h => by rw [List.getElem?_cons_succ] at h; show x :: l.set i a = _; rw [set_same h]
/-- another row in a slot of the document's -/
theorem MHx.row {B : Nat} {w : World} {gh : Nat} {R : Bl} {s : List Sl} {last : Int} {g cap : Nat} {vs : List Value} (h : MHx B w gh R s last (.slice (some ⟨g, 0, none⟩) s.length cap) vs) (i : Nat) (x : Sl) (hx : s[i]? = some x) (l : List Nat) (u : Value)
    (hu : w.ownsRow B 5 1 u l.length (bcells l)) :
    MHx B (w.setCell ⟨g, i * 2 + 1, none⟩ u) gh (fun k => R k ∨ u.ownBlock = some k) (s.set i (x.1, l)) last (.slice (some ⟨g, 0, none⟩) s.length cap) (vs.set i u) ∧ Frm R w (w.setCell ⟨g, i * 2 + 1, none⟩ u) := by
  have hi : i < s.length := (List.getElem?_eq_some_iff.1 hx).1
  have hv : vs[i]? = some (vs[i]'(by rw [h.len]; exact hi)) := List.getElem?_eq_getElem _
  have hR : R g := h.rv g rfl
  have hs1 := h.own.stored (i * 2 + 1) u
  have hgr := hs1.2
  have hsz : (w.setCell ⟨g, i * 2 + 1, none⟩ u).heap.size = w.heap.size := by simp [World.setCell]
  have hgh : gh ≠ g := fun e => own_ne h.own h.hd ty_hs (by rw [e]; rfl)
  have hrow : ∀ (u' : Value) (l : List Nat), w.ownsRow B 5 1 u' l.length (bcells l) → (w.setCell ⟨g, i * 2 + 1, none⟩ u).ownsRow B 5 1 u' l.length (bcells l) := fun u' l hl =>
    hl.kept hgr (.inr (own_own h.own hl ty_sb rfl))
  refine ⟨⟨(hgr.block gh (h.rb gh h.rgh).2 (by simpa using hgh)).trans h.hd, ?_, by rw [List.length_set, List.length_set, h.len], ?_, .inl h.rgh, fun k hk => .inl (h.rv k hk), ?_, ?_⟩, Frm.grown (Frm.refl R w) hgr (fun k hk => by injection hk with hk; subst hk; exact .inl hR)⟩
  · have := hs1.1
    have e := scells_set s vs i (x.1, l) u hi h.len
    rw [set_same (scells_at s vs i x _ hx hv).1] at e
    rw [e] at this
    rw [List.length_set]
    exact this
  · intro j y u' hy hu'
    rw [List.getElem?_set] at hy hu'
    by_cases e : i = j
    · subst e
      rw [if_pos rfl, if_pos hi] at hy
      rw [if_pos rfl, if_pos (by rw [h.len]; exact hi)] at hu'
      injection hy with hy
      injection hu' with hu'
      subst hy hu'
      exact hrow _ _ hu
    · rw [if_neg e] at hy hu'
      exact hrow _ _ (h.rows j y u' hy hu')
  · intro j u' hu' k hk
    rw [List.getElem?_set] at hu'
    by_cases e : i = j
    · subst e
      rw [if_pos rfl, if_pos (by rw [h.len]; exact hi)] at hu'
      injection hu' with hu'
      subst hu'
      exact .inr hk
    · rw [if_neg e] at hu'
      exact .inl (h.rr j u' hu' k hk)
  · intro k hk
    rw [hsz]
    rcases hk with hk | hk
    · exact h.rb k hk
    · exact hu.lt k hk

set_option maxHeartbeats 1000000 in
theorem hrefadd_any (B : Nat) (w : World) (gh : Nat) (R : Bl) (s : List Sl) (last : Int) (v : Value) (vs : List Value) (hs : s.length ≤ 4294967296) (hl1 : 0 ≤ last) (hl2 : last ≤ 4294967296) (h : MHx B w gh R s last v vs)
    (a : Option Addr) (b off cap : Nat) (l : List Nat) (hm : l.length ≤ 17592186044416) (ha : l.length = 0 ∨ a = some ⟨b, off, none⟩) (hA : IsB w b off l) (hd : 0 < l.length → b ≠ gh) :
    Calls Tryd.prog 12 #[.pointer (some ⟨gh, 0, none⟩), .slice a l.length cap] w fun e w' => e = .returned (.int .i64 (last + 1)) ∧ Frm R w w' ∧ ∃ R' v' vs', MHx B w' gh R' (hLay (last + 1) l s) (last + 1) v' vs' ∧ New w R R' := by
  obtain ⟨-, c1, -, z1⟩ := h.cells
  have e1 : IntKind.i64.wrap (last + 1) = last + 1 := by rw [IntKind.wrap_i64]; omega
  have hset := grown_setCell' w gh 1 (.int .i64 (last + 1))
  have hgR : Frm R w (w.setCell ⟨gh, 1, none⟩ (.int .i64 (last + 1))) := Frm.grown (Frm.refl R w) hset (fun k hk => by injection hk with hk; subst hk; exact .inl h.rgh)
  have h2 : MHx B (w.setCell ⟨gh, 1, none⟩ (.int .i64 (last + 1))) gh R s (last + 1) v vs := by
    refine ⟨by rw [block_setCell h.hd _]; rfl, h.own.kept hset (.inr (own_ne h.own h.hd ty_hs)), h.len, fun i x u hx hu => (h.rows i x u hx hu).kept hset (.inr (own_ne (h.rows i x u hx hu) h.hd ty_hb)), h.rgh, h.rv, h.rr, fun k hk => ⟨(h.rb k hk).1, Nat.lt_of_lt_of_le (h.rb k hk).2 hset.size⟩⟩
  have hA2 : IsB (w.setCell ⟨gh, 1, none⟩ (.int .i64 (last + 1))) b off l := by
    refine ⟨fun hl => by simpa [World.setCell] using hA.hb hl, fun i z hz => ?_, hA.lt⟩
    have hl : 0 < l.length := by have := (List.getElem?_eq_some_iff.1 hz).1; omega
    rw [World.cell?_setCell_other _ _ _ _ (fun e => by injection e with e1 e2; exact hd hl e1.symm)]
    exact hA.c i z hz
  have hlay := reflay_any B _ gh R s (last + 1) v vs hs h2 (last + 1) a b off cap l hm ha hA2
  have HLAY := Lib.hid hlay
  have HGR := Lib.hid hgR
  clear h h2 hA2 hlay hset hgR
  go_enter Tryd.func12, Tryd.ntmps12
  go_wp2_with (first | (go_at_call 36; refine HLAY.out.mono ?_; rintro e w2 ⟨rfl, f2, R', v', vs', m2, n2⟩; obtain ⟨-, k1, -, -⟩ := m2.cells; have M2 := Lib.hid m2; have F2 := Lib.hid f2; have N2 := Lib.hid n2; clear m2 f2 n2))
  go_ret
  refine ⟨rfl, HGR.out.trans F2.out (New.refl _ _), R', v', vs', M2.out, fun k hk => ?_⟩
  rcases N2.out k hk with h | h
  · exact .inl h
  · exact .inr (by simpa [World.setCell] using h)

def Two (W w : World) (gh : Nat) (s : List Sl) (last : Int) (gm : Nat) (sm : List Sl) (lm : Int) (K : Bl) : Prop :=
  ∃ R v vs, Hc W w gh s last (fun k => R k ∨ K k) ∧ MHx W.heap.size w gm R sm lm v vs ∧ ∀ k, K k → ¬ R k
section
variable {W w w1 : World} {gh gm : Nat} {s sm : List Sl} {last lm : Int} {K K' : Bl}
theorem Two.below (h : Two W w gh s last gm sm lm K) (hb : Below w.heap.size w w1) : Two W w1 gh s last gm sm lm K := by
  obtain ⟨R, v, vs, h1, h2, h3⟩ := h
  exact ⟨R, v, vs, h1.below hb, h2.step (Frm.of_below (F := fun _ => False) hb) (fun _ _ h => h), h3⟩
theorem Two.bel (h : Two W w gh s last gm sm lm K) : Below W.heap.size W w := by
  obtain ⟨R, v, vs, h1, -⟩ := h
  exact h1.bel
theorem Two.ok (h : Two W w gh s last gm sm lm K) : SlOk s last ∧ 0 ≤ last := by
  obtain ⟨R, v, vs, h1, -⟩ := h
  exact h1.ok
theorem Two.mono (h : Two W w gh s last gm sm lm K) (hk : ∀ k, K' k → K k) : Two W w gh s last gm sm lm K' := by
  obtain ⟨R, v, vs, h1, h2, h3⟩ := h
  exact ⟨R, v, vs, h1.mono (fun k hk' => hk'.imp (fun h => h) (hk k)), h2, fun k hk' => h3 k (hk k hk')⟩
theorem Two.to (h : Two W w gh s last gm sm lm K) (hb : Below w.heap.size w w1) : Two W w1 gh s last gm sm lm (fun k => K k ∨ (w.heap.size ≤ k ∧ k < w1.heap.size)) := by
  obtain ⟨R, v, vs, h1, h2, h3⟩ := h
  refine ⟨R, v, vs, h1.more hb (fun k hk => ?_), h2.step (Frm.of_below (F := fun _ => False) hb) (fun _ _ h => h), fun k hk hr => ?_⟩
  · rcases hk with hk | hk | hk
    · exact .inl (.inl hk)
    · exact .inl (.inr hk)
    · exact .inr hk
  · rcases hk with hk | hk
    · exact h3 k hk hr
    · have := (h2.rb k hr).2; omega
theorem Two.write {F1 : Bl} (h : Two W w gh s last gm sm lm K) (hf : Frm F1 w w1) (h1 : ∀ k, F1 k → K k ∧ W.heap.size ≤ k) : Two W w1 gh s last gm sm lm K := by
  obtain ⟨R, v, vs, q1, q2, q3⟩ := h
  exact ⟨R, v, vs, q1.write hf (fun k hk => ⟨.inr (h1 k hk).1, (h1 k hk).2⟩), q2.step hf (fun k hk hc => q3 k (h1 k hc).1 hk), q3⟩
/-- what the program's heap did -/
theorem two_frm {s' : List Sl} {last' : Int} {R F F' : Bl} {v : Value} {vs : List Value} (h2 : ∀ k, (R k ∨ K k) → ¬ F k ∧ k < w.heap.size) (h3 : Below W.heap.size W w) (h1 : HpX W.heap.size w F gh s last) (hm : MHx W.heap.size w gm R sm lm v vs) (hd : ∀ k, K k → ¬ R k)
    (hf : Frm F w w1) (hn : New w F F') (ht : HpX W.heap.size w1 F' gh s' last') : Two W w1 gh s' last' gm sm lm K ∧ KeptH K w w1 := by
  obtain ⟨q1, q2⟩ := hc_frm (K := fun k => R k ∨ K k) h2 h3 h1 hf hn ht
  exact ⟨⟨R, v, vs, q1, hm.step hf (fun k hk => (h2 k (.inl hk)).1), hd⟩, q2.1, fun k hk => q2.2 k (.inr hk)⟩
/-- what the document's heap did -/
theorem two_mfrm {sm' : List Sl} {lm' : Int} {R R' F : Bl} {v v' : Value} {vs vs' : List Value} (h2 : ∀ k, (R k ∨ K k) → ¬ F k ∧ k < w.heap.size) (h3 : Below W.heap.size W w) (h1 : HpX W.heap.size w F gh s last) (hm : MHx W.heap.size w gm R sm lm v vs) (hd : ∀ k, K k → ¬ R k)
    (hf : Frm R w w1) (hn : New w R R') (ht : MHx W.heap.size w1 gm R' sm' lm' v' vs') : Two W w1 gh s last gm sm' lm' K ∧ KeptH K w w1 := by
  have hRb : ∀ k, R k → W.heap.size ≤ k := fun k hk => (hm.rb k hk).1
  refine ⟨⟨R', v', vs', ⟨F, h1.step hf (fun k hk hc => (h2 k (.inl hc)).1 hk) hRb, fun k hk => ?_, h3.trans (hf.below hRb h3.size)⟩, ht, fun k hk hr => ?_⟩, hf.size, fun k hk => hf.block k (h2 k (.inr hk)).2 (hd k hk)⟩
  · rcases hk with hk | hk
    · refine ⟨fun hc => ?_, (ht.rb k hk).2⟩
      rcases hn k hk with q | q
      · exact (h2 k (.inl q)).1 hc
      · have := (h1.low k hc).2; omega
    · exact ⟨(h2 k (.inr hk)).1, Nat.lt_of_lt_of_le (h2 k (.inr hk)).2 hf.size⟩
  · rcases hn k hr with q | q
    · exact hd k hk q
    · have := (h2 k (.inr hk)).2; omega
theorem two_add (h : Two W w gh s last gm sm lm K) (hs : s.length ≤ 4294967296) (hl : last ≤ 4294967296) {R : Bl} {u : Value} {l : List Nat} (hu : KeyAt w R u l) (hR : ∀ k, R k → K k ∨ k < W.heap.size) :
    Calls Tryd.prog 11 #[.pointer (some ⟨gh, 0, none⟩), u] w fun e w' => e = .returned (.int .i64 (last + 1)) ∧ Two W w' gh (hLay (last + 1) l s) (last + 1) gm sm lm K ∧ KeptH K w w' := by
  obtain ⟨R0, v, vs, ⟨F, h1, h2, h3⟩, hm, hd⟩ := h
  refine (hadd_any h1 hs hl hu (fun k hk hc => ?_)).mono ?_
  · rcases hR k hk with q | q
    · exact (h2 k (.inr q)).1 hc
    · have := (h1.low k hc).1; omega
  · rintro e w' ⟨rfl, F', hf, hn, hx⟩
    exact ⟨rfl, two_frm h2 h3 h1 hm hd hf hn hx⟩
theorem two_back (h : Two W w gh s last gm sm lm K) (hs : s.length ≤ 4294967296) (hl : last ≤ 4294967296) (id : Int) {R : Bl} {u : Value} {l : List Nat} (hu : KeyAt w R u l) (hR : ∀ k, R k → K k ∨ k < W.heap.size) :
    Calls Tryd.prog 15 #[.pointer (some ⟨gh, 0, none⟩), .int .i64 id, u] w fun e w' => e = .returned (.bool (decide (1 ≤ id ∧ id ≤ last ∧ hFind id s < 0))) ∧ Two W w' gh (if 1 ≤ id ∧ id ≤ last ∧ hFind id s < 0 then hLay id l s else s) last gm sm lm K ∧ KeptH K w w' := by
  obtain ⟨R0, v, vs, ⟨F, h1, h2, h3⟩, hm, hd⟩ := h
  refine (hback_any h1 hs hl id hu (fun k hk hc => ?_)).mono ?_
  · rcases hR k hk with q | q
    · exact (h2 k (.inr q)).1 hc
    · have := (h1.low k hc).1; omega
  · rintro e w' ⟨rfl, F', hf, hn, hx⟩
    exact ⟨rfl, two_frm h2 h3 h1 hm hd hf hn hx⟩
theorem two_drop (h : Two W w gh s last gm sm lm K) (hs : s.length ≤ 4294967296) (hl : last ≤ 4294967296) (id : Int) :
    Calls Tryd.prog 13 #[.pointer (some ⟨gh, 0, none⟩), .int .i64 id] w fun e w' => e = .returned (.bool (decide (0 ≤ hFind id s))) ∧ Two W w' gh (hDrop id s) last gm sm lm K ∧ KeptH K w w' := by
  obtain ⟨R0, v, vs, ⟨F, h1, h2, h3⟩, hm, hd⟩ := h
  refine (hdrop_any h1 hs hl id).mono ?_
  rintro e w' ⟨rfl, F', hf, hn, hx⟩
  exact ⟨rfl, two_frm h2 h3 h1 hm hd hf hn hx⟩
theorem two_set (h : Two W w gh s last gm sm lm K) (id : Int) {R : Bl} {u : Value} {l : List Nat} (hu : KeyAt w R u l) :
    Calls Tryd.prog 18 #[.pointer (some ⟨gh, 0, none⟩), .int .i64 id, u] w fun e w' => e = .returned (.bool (decide (0 ≤ hFind id s))) ∧ Two W w' gh (hSet id l s) last gm sm lm K ∧ KeptH K w w' := by
  obtain ⟨R0, v, vs, ⟨F, h1, h2, h3⟩, hm, hd⟩ := h
  refine (hset_any h1 id hu).mono ?_
  rintro e w' ⟨hf, ⟨q1, rfl, hx⟩ | ⟨k, row, q1, q2, rfl, hx⟩⟩
  · have e : hSet id l s = s := by unfold hSet; rw [if_pos (by omega)]
    rw [q1, decide_eq_false (by omega), e]
    exact ⟨rfl, two_frm h2 h3 h1 hm hd hf (New.refl _ _) hx⟩
  · have e : hSet id l s = s.set k (id, l) := by unfold hSet; rw [if_neg (by omega), q2]; rfl
    rw [q2, decide_eq_true (by omega), e]
    exact ⟨rfl, two_frm h2 h3 h1 hm hd hf (New.refl _ _) hx⟩
theorem two_hc (h : Two W w gh s last gm sm lm K) : Hc W w gh s last (fun _ => False) := by
  obtain ⟨R0, v, vs, h1, -⟩ := h
  exact h1.mono (fun _ h => h.elim)
theorem two_madd (h : Two W w gh s last gm sm lm K) (hs : sm.length ≤ 4294967296) (hl0 : 0 ≤ lm) (hl : lm ≤ 4294967296) {R : Bl} {u : Value} {l : List Nat} (hu : KeyAt w R u l) (hlen : l.length ≤ 17592186044416) (hR : ∀ k, R k → K k ∨ k < W.heap.size) :
    Calls Tryd.prog 12 #[.pointer (some ⟨gm, 0, none⟩), u] w fun e w' => e = .returned (.int .i64 (lm + 1)) ∧ Two W w' gh s last gm (hLay (lm + 1) l sm) (lm + 1) K ∧ KeptH K w w' := by
  obtain ⟨R0, v, vs, ⟨F, h1, h2, h3⟩, hm, hd⟩ := h
  obtain ⟨a, b, off, cap, rfl, k1, k2⟩ := hu
  refine (hrefadd_any _ w gm R0 sm lm v vs hs hl0 hl hm a b off cap l hlen (k1.imp_right fun h => h.1) k2 (fun h0 e => ?_)).mono ?_
  · rcases k1 with k1 | ⟨-, k1⟩
    · omega
    · subst e
      rcases hR _ k1 with q | q
      · exact hd _ q hm.rgh
      · have := (hm.rb _ hm.rgh).1; omega
  · rintro e w' ⟨rfl, hf, R', v', vs', hx, hn⟩
    exact ⟨rfl, two_mfrm h2 h3 h1 hm hd hf hn hx⟩
theorem two_mback (h : Two W w gh s last gm sm lm K) (hs : sm.length ≤ 4294967296) (id : Int) {R : Bl} {u : Value} {l : List Nat} (hu : KeyAt w R u l) (hlen : l.length ≤ 17592186044416) :
    Calls Tryd.prog 16 #[.pointer (some ⟨gm, 0, none⟩), .int .i64 id, u] w fun e w' => e = .returned (.bool (decide (1 ≤ id ∧ id ≤ lm ∧ hFind id sm < 0))) ∧ Two W w' gh s last gm (if 1 ≤ id ∧ id ≤ lm ∧ hFind id sm < 0 then hLay id l sm else sm) lm K ∧ KeptH K w w' := by
  obtain ⟨R0, v, vs, ⟨F, h1, h2, h3⟩, hm, hd⟩ := h
  obtain ⟨a, b, off, cap, rfl, k1, k2⟩ := hu
  refine (refback_any _ w gm R0 sm lm v vs hs hm id a b off cap l hlen (k1.imp_right fun h => h.1) k2).mono ?_
  rintro e w' ⟨rfl, hf, R', v', vs', hx, hn⟩
  exact ⟨rfl, two_mfrm h2 h3 h1 hm hd hf hn hx⟩
theorem two_mdrop (h : Two W w gh s last gm sm lm K) (hs : sm.length ≤ 4294967296) (id : Int) :
    Calls Tryd.prog 14 #[.pointer (some ⟨gm, 0, none⟩), .int .i64 id] w fun e w' => e = .returned (.bool (decide (0 ≤ hFind id sm))) ∧ Two W w' gh s last gm (hDrop id sm) lm K ∧ KeptH K w w' := by
  obtain ⟨R0, v, vs, ⟨F, h1, h2, h3⟩, hm, hd⟩ := h
  refine (refdrop_any _ w gm R0 sm lm v vs hs hm id).mono ?_
  rintro e w' ⟨rfl, hf, vs', hx⟩
  exact ⟨rfl, two_mfrm h2 h3 h1 hm hd hf (New.refl _ _) hx⟩
theorem two_mfind (h : Two W w gh s last gm sm lm K) (hs : sm.length ≤ 4294967296) (id : Int) :
    Calls Tryd.prog 17 #[.pointer (some ⟨gm, 0, none⟩), .int .i64 id] w fun e w' => e = .returned (.int .i64 (hFind id sm)) ∧ w = w' := by
  obtain ⟨R0, v, vs, -, hm, -⟩ := h
  exact reffind_any _ w gm R0 sm lm v vs hs hm id
theorem two_mbeh (h : Two W w gh s last gm sm lm K) (hs : sm.length ≤ 4294967296) (id : Int) :
    Calls Tryd.prog 20 #[.pointer (some ⟨gm, 0, none⟩), .int .i64 id] w fun e w' => e = .returned (.tuple #[.int .i64 (hBeh id 0 sm), .bool (decide (0 < hBeh id 0 sm))]) ∧ w = w' := by
  obtain ⟨R0, v, vs, -, hm, -⟩ := h
  exact refbeh_any _ w gm R0 sm lm v vs hs hm id
theorem two_mlen (h : Two W w gh s last gm sm lm K) (hs : sm.length ≤ 4294967296) :
    Calls Tryd.prog 41 #[.pointer (some ⟨gm, 0, none⟩)] w fun e w' => e = .returned (.int .i64 (hLen sm : Nat)) ∧ w = w' := by
  obtain ⟨R0, v, vs, -, hm, -⟩ := h
  exact reflen_any _ w gm R0 sm lm v vs hs hm
theorem two_mpages (h : Two W w gh s last gm sm lm K) (hs : sm.length ≤ 4294967296) :
    Calls Tryd.prog 42 #[.pointer (some ⟨gm, 0, none⟩)] w fun e w' => ∃ v', e = .returned v' ∧ OwI w' w.heap.size v' (hPages sm) ∧ Below w.heap.size w w' := by
  obtain ⟨R0, v, vs, -, hm, -⟩ := h
  exact refpages_any _ w gm R0 sm lm v vs hs hm
theorem two_mlast (h : Two W w gh s last gm sm lm K) : w.cell? ⟨gm, 1, none⟩ = some (.int .i64 lm) ∧ ∃ v : Value, w.cell? ⟨gm, 0, none⟩ = some v ∧ ∃ a cap, v = .slice a sm.length cap := by
  obtain ⟨R0, v, vs, -, hm, -⟩ := h
  exact ⟨hm.cells.2.1, v, hm.cells.1, hm.form⟩
end
/-- a heap of the document's, new -/
theorem two_made {W w : World} {gh : Nat} {s : List Sl} {last : Int} {gm : Nat} (h : Hc W w gh s last (fun _ => False)) (hg : w.heap.size = gm) : Two W (w.alloc (.cells #[.slice none 0 0, .int .i64 0] 29)) gh s last gm [] 0 (fun _ => False) := by
  subst hg
  have hb : Below w.heap.size w (w.alloc (.cells #[.slice none 0 0, .int .i64 0] 29)) := (Below.refl _ _).alloc (Nat.le_refl _) _
  refine ⟨fun k => k = w.heap.size, .slice none 0 0, [], h.more hb (fun k hk => .inr ?_), ⟨heap_alloc_new _ _, World.ownsRow_nil _ _ _ 2, rfl, fun i x u hx => by simp at hx, rfl, fun k hk => by simp [Value.ownBlock] at hk, fun i u hu => by simp at hu, fun k hk => ⟨by rw [hk]; exact h.bel.size, by rw [hk]; simp⟩⟩, fun k hk => hk.elim⟩
  rcases hk with rfl | hk
  · exact ⟨Nat.le_refl _, by simp⟩
  · exact hk.elim

end Go.Proofs.YtmmchhlfbhbigaaDoor

namespace Go.Proofs.YtmmchhlfbhbigaaDoor
set_option maxRecDepth 100000
open Go.RowKit Go.Joins Go.ChangeShapes Go.WideShapes
set_option linter.unusedVariables false
set_option linter.unusedSimpArgs false

theorem two_slot {W w : World} {gh gm : Nat} {s sm : List Sl} {last lm : Int} {K : Bl} (h : Two W w gh s last gm sm lm K) {k : Nat} {x : Sl} (hx : sm[k]? = some x) (hr : ∀ b ∈ x.2, b < 256) :
    ∃ g cap u, w.cell? ⟨gm, 0, none⟩ = some (.slice (some ⟨g, 0, none⟩) sm.length cap) ∧ w.cell? ⟨g, k * 2, none⟩ = some (.int .i64 x.1) ∧ w.cell? ⟨g, k * 2 + 1, none⟩ = some u ∧ KeyAt w (fun _ => True) u x.2 ∧ (∃ a n c, u = .slice a n c) := by
  obtain ⟨R0, v, vs, -, hm, -⟩ := h
  obtain ⟨g, cap, u, rfl, h1, h2, h3, -, -⟩ := hm.slot k x hx
  have ho := hm.rows k x u hx h1
  have hlen := ho.1
  rcases ho.2 with ⟨rfl, e⟩ | ⟨g', c', cur, rfl, hrest⟩
  · refine ⟨g, cap, _, hm.cells.1, h2, h3, ?_, ⟨_, _, _, rfl⟩⟩
    rw [List.eq_nil_of_length_eq_zero e]
    exact key_none w _
  · exact ⟨g, cap, _, hm.cells.1, h2, h3, OwB.keyAt (⟨ho, by simp⟩ : OwB w W.heap.size (.slice (some ⟨g', 0, none⟩) x.2.length c') x.2) hr (fun _ _ => trivial), ⟨_, _, _, rfl⟩⟩
/-- bytes of g's that are written one after the other -/
structure SpB (w wx : World) (g n k : Nat) : Prop where
  frm : Frm (fun j => j = g) w wx
  at_ : ∀ j, k ≤ j → j < n → ∃ z : Int, wx.cell? ⟨g, j, none⟩ = some (.int .u8 z)
  fz : ∀ j, j < n → wx.frozen? ⟨g, j, none⟩ = false
theorem SpB.next {w wx : World} {g n k : Nat} (h : SpB w wx g n k) (v : Value) : SpB w (wx.setCell ⟨g, k, none⟩ v) g n (k + 1) := by
  refine ⟨h.frm.setCell (F := fun j => j = g) (.inl rfl) k v, fun j hj hn => ?_, fun j hj => ?_⟩
  · obtain ⟨z, hz⟩ := h.at_ j (by omega) hn
    exact ⟨z, by rw [World.cell?_setCell_other _ _ _ _ (fun e => by injection e with e1 e2; omega)]; exact hz⟩
  · rw [World.frozen?_setCell]; exact h.fz j hj
theorem SpB.start {w : World} {base g cap : Nat} {l : List Nat} (h : OwK w base (.slice (some ⟨g, 0, none⟩) l.length cap) l) : SpB w w g l.length 0 := by
  obtain ⟨g', c', e, h1, h2, h3, h4, h5⟩ := h
  injection e with e1 e2 e3
  injection e1 with e1
  injection e1 with e1
  subst e1
  refine ⟨Frm.refl _ _, fun j _ hj => ?_, h4⟩
  have hx : l[j]? = some (l[j]'hj) := List.getElem?_eq_getElem _
  exact ⟨_, h3 j _ hx⟩
set_option maxHeartbeats 4000000 in
theorem shown8_any {W w : World} {gh gm : Nat} {s : List Sl} {last : Int} {K : Bl} (h : Two W w gh s last gm s last K) (hs : s.length ≤ 4194304) (hl : last ≤ 4194304) (hrow : RowsLe 1048576 s) (id : Int) :
    Calls Tryd.prog 21 #[.pointer (some ⟨gh, 0, none⟩), .pointer (some ⟨gm, 0, none⟩), .int .i64 id] w fun e w' => e = .returned (.bool true) ∧ Below w.heap.size w w' := by
  generalize hP : (fun (e : Ending) (w' : World) => e = .returned (.bool true) ∧ Below w.heap.size w w') = P
  have HP := Lib.hid (show ∀ w', Below w.heap.size w w' → P (.returned (.bool true)) w' from fun w' hb => by rw [← hP]; exact ⟨rfl, hb⟩)
  have HOK := Lib.hid h.ok.1
  have H := Lib.hid h
  have HG := Lib.hid (hc_get (two_hc h) id)
  have HRW := Lib.hid hrow
  clear hP h hrow
  go_enter Tryd.func21, Tryd.ntmps21
  go_wp2_with fail
  refine HG.out.mono ?_
  rintro x w1 ⟨b1, hget⟩
  have HB1 := Lib.hid b1
  have H1 := Lib.hid (H.out.below b1)
  clear b1 HG
  obtain ⟨T, hT⟩ : ∃ T, hFind id s = T := ⟨_, rfl⟩
  obtain ⟨a1, m1, c1, ok, rfl, hok, hcase⟩ : ∃ (a1 : Option Addr) (m1 c1 : Nat) (ok : Bool), x = .returned (.tuple #[.slice a1 m1 c1, .bool ok]) ∧ ok = decide (0 ≤ T) ∧ ((T = -1 ∧ m1 = 0) ∨ ∃ (k : Nat) (row : List Nat), T = (k : Int) ∧ s[k]? = some (id, row) ∧ OwK w1 w.heap.size (.slice a1 m1 c1) row ∧ m1 = row.length) := by
    rcases hget with ⟨q1, rfl⟩ | ⟨k, row, v, q1, q2, q3, hk1, rfl⟩
    · exact ⟨none, 0, 0, false, rfl, by rw [← hT, q1]; rfl, .inl ⟨by rw [← hT, q1], rfl⟩⟩
    · obtain ⟨g, cap, rfl, -⟩ := _root_.id hk1
      exact ⟨_, _, _, true, rfl, by rw [← hT, q3, decide_eq_true (by omega)], .inr ⟨k, row, by rw [← hT, q3], q1, hk1, rfl⟩⟩
  have HC := Lib.hid hcase
  clear hget hcase
  obtain ⟨P1, P2, hP⟩ : ∃ P1 P2, PlaceI id s = (P1, P2) := ⟨_, _, rfl⟩
  have HPL := Lib.hid (hc_place (two_hc H1.out) id)
  rw [hP] at HPL
  have HFD := Lib.hid (fun wx (hb : Below w1.heap.size w1 wx) => two_mfind (H1.out.below hb) (by omega) id)
  rw [hT] at HFD
  have HPP := Lib.hid (show PlaceI id s = (P1, P2) from hP)
  have HTT := Lib.hid hT
  clear hT hP
  go_wp2_with fail
  refine HPL.out.mono ?_
  rintro x w2 ⟨rfl, b2⟩
  have HB2 := Lib.hid (stepB HB1.out b2)
  have B12 := Lib.hid b2
  have H2 := Lib.hid (H1.out.below b2)
  have HFD2 := Lib.hid (HFD.out w2 b2)
  clear b2 HPL H1 HFD
  go_wp2_with fail
  refine HFD2.out.mono ?_
  rintro x w2' ⟨rfl, rfl⟩
  have HLEN := Lib.hid (fun wx (hb : Below w2.heap.size w2 wx) => hc_len (two_hc (H2.out.below hb)))
  have HMLEN := Lib.hid (fun wx (hb : Below w2.heap.size w2 wx) => two_mlen (H2.out.below hb) (by omega))
  have HLAST := Lib.hid (fun wx (hb : Below w2.heap.size w2 wx) => hc_last (two_hc (H2.out.below hb)))
  have HPG := Lib.hid (fun wx (hb : Below w2.heap.size w2 wx) => hc_pages (two_hc (H2.out.below hb)) (by omega))
  have HMPG := Lib.hid (fun wx (hb : Below w2.heap.size w2 wx) => two_mpages (H2.out.below hb) (by omega))
  have cl := (two_mlast H2.out).1
  have lgm : gm < w2.heap.size := World.block_lt_of_cell? w2 _ cl
  obtain ⟨nl, hnl⟩ : ∃ nl, hLen s = nl := ⟨_, rfl⟩
  obtain ⟨L, hL⟩ : ∃ L, hPages s = L := ⟨_, rfl⟩
  obtain ⟨np, hnp⟩ : ∃ np, L.length = np := ⟨_, rfl⟩
  rw [hnl] at HLEN HMLEN
  rw [hL] at HPG HMPG
  have HNP := Lib.hid hnp
  have t0 : (ok != decide (0 ≤ T)) = false := by rw [hok]; simp
  have t1 : ((nl : Int) != (nl : Int)) = false := by simp
  have t2 : (last != last) = false := by simp
  have HOKK := Lib.hid hok
  clear hnl hL hnp hok HFD2
  go_upto_region 4 with fail
  go_cut [56] (fun q wx => q = .bool false ∧ Below w2.heap.size w2 wx)
  case first =>
    go_region_with (first
      | (go_at_call 24; refine (HLEN.out w2.drew ((Below.refl _ _).drew)).mono ?_; rintro x wy ⟨rfl, rfl⟩)
      | (go_at_call 41; refine (HMLEN.out w2.drew ((Below.refl _ _).drew)).mono ?_; rintro x wy ⟨rfl, rfl⟩)
      | (go_at_call 26; refine (HLAST.out w2.drew ((Below.refl _ _).drew)).mono ?_; rintro x wy ⟨rfl, rfl⟩)
      | (go_at_call 23; refine (HPG.out w2.drew ((Below.refl _ _).drew)).mono ?_; rintro x w5 ⟨v5, rfl, o5, b5⟩; obtain ⟨g5, c5, rfl, -, n5⟩ := OwI.form o5; have hs5 := OwI.short o5; rw [HNP.out] at hs5; have HS5 := Lib.hid hs5; have N5 := Lib.hid n5; have B5 := Lib.hid (stepB ((Below.refl _ _).drew) b5); rw [HNP.out]; clear o5 b5 n5 hs5)
      | (go_at_call 42; refine (HMPG.out w5 B5.out).mono ?_; rintro x w6 ⟨v6, rfl, o6, b6⟩; obtain ⟨g6, c6, rfl, -, n6⟩ := OwI.form o6; have hsi := sameints_any (some ⟨g5, 0, none⟩) (some ⟨g6, 0, none⟩) g5 0 c5 g6 0 c6 L L (by have := HS5.out; have := HNP.out; unfold maxLen; omega) (by have := HS5.out; have := HNP.out; unfold maxLen; omega) w6 (.inr rfl) (.inr rfl) (N5.out.below b6) n6; rw [HNP.out, show decide (L = L) = true by simp] at hsi; have HSI := Lib.hid hsi; have B6 := Lib.hid (stepB B5.out b6); rw [HNP.out]; clear o6 b6 n6 hsi)
      | (go_at_call 33; refine HSI.out.mono ?_; rintro x w7 ⟨rfl, b7⟩; have B7 := Lib.hid (stepB B6.out b7); clear b7))
    all_goals
      go_wp2_with fail
      go_meet
      exact ⟨rfl, B7.out⟩
  case rest =>
    obtain ⟨rfl, hbc⟩ := hcut
    have H3 := Lib.hid (H2.out.below hbc)
    have HB3 := Lib.hid (stepB HB2.out hbc)
    have B13 := Lib.hid (stepB B12.out hbc)
    clear hbc HLEN HMLEN HLAST HPG HMPG cl lgm t0 t1 t2 H2 HB2 B12
    rcases HC.out with ⟨rfl, rfl⟩ | ⟨k, row, rfl, q1, hk1, rfl⟩
    · have hpp := HPP.out
      unfold PlaceI at hpp
      rw [HTT.out, if_pos (by decide)] at hpp
      injection hpp with hp1 hp2
      subst hp1 hp2
      go_wp2_with fail
      exact HP.out _ HB3.out
    · have hpp := HPP.out
      unfold PlaceI at hpp
      rw [HTT.out, if_neg (by omega)] at hpp
      injection hpp with hp1 hp2
      have hki : decide ((k : Int) < 0) = false := by simp
      have hks : k < s.length := (List.getElem?_eq_some_iff.1 q1).1
      obtain ⟨pp, hpp⟩ : ∃ pp : Nat, k / 16 = pp := ⟨_, rfl⟩
      obtain ⟨ss, hss⟩ : ∃ ss : Nat, k % 16 = ss := ⟨_, rfl⟩
      obtain rfl : P1 = (pp : Int) := by omega
      obtain rfl : P2 = (ss : Int) := by omega
      have e1 : (k : Int).tdiv 16 = (pp : Int) := by rw [← hpp]; exact (Int.ofNat_tdiv k 16).symm
      have e2 : (k : Int).tmod 16 = (ss : Int) := by rw [← hss]; exact (Int.ofNat_tmod k 16).symm
      have hpb : pp ≤ 4194304 := by omega
      have hsb : ss ≤ 16 := by omega
      obtain ⟨g, cap, u, y0, -, y2, hku, ua, un, uc, rfl⟩ := two_slot H3.out q1 (HOK.out.row k id row q1)
      have hk3 := hk1.below B13.out
      have YB := Lib.hid (show ∀ n, (convert 30 9 (.slice a1 row.length c1)).run Tryd.prog (wc.drewN n) = .ok (.string (strB row)) (wc.drewN n) from (hk3.keyAt (R := fun _ => True) (fun _ _ => trivial)).strN)
      have YU := Lib.hid (show ∀ n, (convert 30 9 (.slice ua un uc)).run Tryd.prog (wc.drewN n) = .ok (.string (strB row)) (wc.drewN n) from hku.strN)
      have yb := YB.out
      have yu := YU.out
      have hks : (k : Int) < (s.length : Int) := by omega
      obtain ⟨ns, hns⟩ : ∃ ns, s.length = ns := ⟨_, rfl⟩
      rw [hns] at y0 hks
      obtain ⟨g1, cg1, ev, -⟩ := _root_.id hk3
      injection ev with ev1 ev2 ev3
      subst ev1
      have HK3 := Lib.hid hk3
      have hrl := HRW.out _ (List.mem_of_getElem? q1)
      simp only at hrl
      have hge := (hk3.lt g1 rfl).1
      clear hp1 hp2 hpp hss hk1 hku hk3 q1 hns ev2 ev3
      go_upto_region 8 with fail
      go_quiet (fail)
      have HSB := Lib.hid (SpB.start (HK3.out.below (show Below wc.heap.size wc (wc.drewN nq) from ⟨rfl, rfl, rfl, Nat.le_refl _, fun _ _ => rfl⟩)))
      have HBW := Lib.hid (stepB HB3.out (show Below wc.heap.size wc (wc.drewN nq) from ⟨rfl, rfl, rfl, Nat.le_refl _, fun _ _ => rfl⟩))
      obtain ⟨wd, hwd⟩ : ∃ wd, wc.drewN nq = wd := ⟨_, rfl⟩
      rw [hwd] at HSB HBW ⊢
      obtain ⟨nr, hnr⟩ : ∃ nr, row.length = nr := ⟨_, rfl⟩
      rw [hnr] at HSB hrl ⊢
      clear hwd yb yu YB YU HK3 y0 y2 hnr
      go_wp2_with fail
      go_loopw [96] (fun i wx => ∃ j : Nat, j ≤ nr ∧ i = .int .i64 j ∧ SpB wd wx g1 nr j) (fun i _ => nr - (intOf i).toNat)
      case atStart => exact ⟨0, Nat.zero_le _, rfl, HSB.out⟩
      case round =>
        obtain ⟨j, hj, rfl, hsp⟩ := hrel
        by_cases c : j < nr
        · have cj : (j : Int) < (nr : Int) := by omega
          obtain ⟨z, hz⟩ := hsp.at_ j (Nat.le_refl _) c
          have hf := hsp.fz j c
          have HSP := Lib.hid hsp
          clear hsp
          go_wp2_with fail
          exact ⟨⟨j + 1, by omega, by simp, HSP.out.next _⟩, by simp [intOf]; omega⟩
        · have cj : ¬ (j : Int) < (nr : Int) := by omega
          have HF := Lib.hid (HP.out wr (HBW.out.trans ((hsp.frm).below (B := w.heap.size) (fun k hk => by rw [hk]; exact hge) HBW.out.size)))
          clear hsp
          go_wp2_with fail
          exact HF.out

end Go.Proofs.YtmmchhlfbhbigaaDoor

namespace Go.Proofs.YtmmchhlfbhbigaaDoor
set_option maxRecDepth 100000
open Go.RowKit Go.Joins Go.ChangeShapes Go.WideShapes
set_option linter.unusedVariables false
set_option linter.unusedSimpArgs false

theorem KeyAt.low {w : World} {R : Bl} {u : Value} {k : List Nat} (h : KeyAt w R u k) : KeyAt w (fun j => j < w.heap.size) u k := by
  obtain ⟨a, b, off, cap, rfl, h1, h2⟩ := h
  refine ⟨a, b, off, cap, rfl, ?_, h2⟩
  by_cases c : k.length = 0
  · exact .inl c
  · exact .inr ⟨(h1.resolve_left c).1, h2.hb (by omega)⟩
theorem OwB.owK {w : World} {base : Nat} {v : Value} {l : List Nat} (h : OwB w base v l) (hl : ∀ x ∈ l, x < 256) : OwK w base v l := by
  obtain ⟨g, cap, rfl, h1, h2⟩ := h.isB hl
  obtain ⟨cur, hg⟩ := own_block h.1 (g := g) rfl
  exact ⟨g, cap, rfl, h2, (h.1.lt g rfl).2, fun i x hx => by have := h1.c i x hx; rw [Nat.zero_add] at this; exact this, fun i _ => unfrozen_of_block hg i, hl⟩
theorem KeptH.trans {K : Bl} {w w1 w2 : World} (h : KeptH K w w1) (h2 : KeptH K w1 w2) : KeptH K w w2 := ⟨Nat.le_trans h.1 h2.1, fun k hk => (h2.2 k hk).trans (h.2 k hk)⟩
theorem KeptH.refl (K : Bl) (w : World) : KeptH K w w := ⟨Nat.le_refl _, fun _ _ => rfl⟩
theorem KeptH.below {K : Bl} {w w1 w2 : World} (h : KeptH K w w1) (hK : ∀ k, K k → k < w.heap.size) (hb : Below w1.heap.size w1 w2) : KeptH K w w2 :=
  ⟨Nat.le_trans h.1 hb.size, fun k hk => (hb.block k (Nat.lt_of_lt_of_le (hK k hk) h.1)).trans (h.2 k hk)⟩
theorem RowsLe.set {m : Nat} {s : List Sl} (h : RowsLe m s) {id : Int} {row : List Nat} (hr : row.length ≤ m) : RowsLe m (hSet id row s) := by
  unfold hSet
  split
  · exact h
  · intro x hx
    rcases List.mem_or_eq_of_mem_set hx with q | q
    · exact h x q
    · subst q; exact hr
theorem hSet_len (id : Int) (row : List Nat) (s : List Sl) : (hSet id row s).length = s.length := by unfold hSet; split <;> simp
theorem two_row {W w : World} {gh gm : Nat} {s s' : List Sl} {last lm : Int} {K : Bl} (h : Two W w gh s' last gm s lm K) {k : Nat} {id : Int} {row : List Nat} (hk : s[k]? = some (id, row)) {g cap : Nat} (hg : w.cell? ⟨gm, 0, none⟩ = some (.slice (some ⟨g, 0, none⟩) s.length cap)) {u : Value} {l : List Nat} (hu : OwB w W.heap.size u l)
    (hK : ∀ j, u.ownBlock = some j → K j) : Two W (w.setCell ⟨g, k * 2 + 1, none⟩ u) gh s' last gm (s.set k (id, l)) lm (fun j => K j ∧ u.ownBlock ≠ some j) ∧ KeptH (fun j => K j) w (w.setCell ⟨g, k * 2 + 1, none⟩ u) ∧ w.frozen? ⟨g, k * 2 + 1, none⟩ = false := by
  obtain ⟨R, v, vs, ⟨F, h1, h2, h3⟩, hm, hd⟩ := h
  have e : v = .slice (some ⟨g, 0, none⟩) s.length cap := by
    have := hm.cells.1
    rw [hg] at this
    injection this with this
    exact this.symm
  subst e
  obtain ⟨q1, q2⟩ := hm.row k (id, row) hk l u hu.1
  have hRb : ∀ j, R j → W.heap.size ≤ j := fun j hj => (hm.rb j hj).1
  refine ⟨⟨_, _, _, ⟨F, h1.step q2 (fun j hj hc => (h2 j (.inl hc)).1 hj) hRb, fun j hj => ?_, h3.trans (q2.below hRb h3.size)⟩, q1, fun j hj hr => ?_⟩, ⟨q2.size, fun j hj => q2.block j (h2 j (.inr hj)).2 (hd j hj)⟩, ?_⟩
  · rcases hj with (hj | hj) | hj
    · exact ⟨(h2 j (.inl hj)).1, Nat.lt_of_lt_of_le (h2 j (.inl hj)).2 q2.size⟩
    · exact ⟨(h2 j (.inr (hK j hj))).1, Nat.lt_of_lt_of_le (h2 j (.inr (hK j hj))).2 q2.size⟩
    · exact ⟨(h2 j (.inr hj.1)).1, Nat.lt_of_lt_of_le (h2 j (.inr hj.1)).2 q2.size⟩
  · rcases hr with hr | hr
    · exact hd j hj.1 hr
    · exact hj.2 hr
  · obtain ⟨g', cap', u', e1, -, -, -, -, h6⟩ := hm.slot k (id, row) hk
    injection e1 with e1
    injection e1 with e1
    injection e1 with e1
    subst e1
    exact h6

theorem wf_in {n : Int} (h : (Lit.int .i64 n).wf = true) : InI n := by
  unfold InI
  simp [Lit.wf, IntKind.min, IntKind.max, IntKind.signed, IntKind.bits] at h
  omega
set_option maxRecDepth 100000 in
/-- the numbers of a script are int's -/
theorem ids_in {H : Type} {enc : TypeId × Value → H} {W : World} {base b off n cap : Nat} {d : DataW H} {p : List MemPlace}
    (h : DataW.Trod enc Tryd.prog W base (fun _ => true) true 22 (.slice (some ⟨b, off, none⟩) n cap) d p) (i : Nat) (hil : i < n) (z : Int) (hz : W.cell? ⟨b, off + i * 3 + 1, none⟩ = some (.int .i64 z)) : InI z := by
  obtain ⟨fuel, hf⟩ := h
  rcases Go.Deep.open_slice Tryd.underlying22 hf with ⟨hcs, hx⟩ | ⟨a', len', cap', m, n', D, Pl, hcs, hbb, hl, hm, hmm, hx, hi⟩
  · simp [Value.cells] at hcs
  · simp [Value.cells] at hcs
    obtain ⟨rfl, rfl, rfl⟩ := hcs
    simp only [if_true] at hmm
    subst hmm
    rw [cells_oph] at hi
    obtain ⟨cs', hc, ht⟩ := hi i (by omega)
    obtain ⟨y0, y1, y2, n2, hy, hlen, g0, g1, g2⟩ := Go.Deep.trod_struct3 Tryd.underlying32 ht
    rw [cells_oph] at hlen
    obtain ⟨_, hcl, hat⟩ := World.cells?_some hc
    match cs', hlen with
    | [q0, q1, q2], _ =>
      obtain ⟨z', e2, -, hwf⟩ := DataW.trod_int Tryd.underlying3 g1
      simp only [cells_int, cells_keyh] at e2
      simp at e2
      subst e2
      have h1 := hat 1 (by decide)
      have ea : ∀ j, (⟨b, off, none⟩ : Addr).add j = ⟨b, off + j, none⟩ := by intro j; unfold Addr.add; split <;> simp_all
      rw [Go.Deep.add_add, ea, ← Nat.add_assoc, hz] at h1
      simp at h1
      subst h1
      exact wf_in hwf

end Go.Proofs.YtmmchhlfbhbigaaDoor
