/-
  All entries of a tree: appendEntries, Entries: contracts over the translation.
  Conditions: the tree lies in memory.
-/
import Derived.Test.YtncganfjbalkgaaTr19
namespace Go.Proofs.Ytncganfjbalkgaa
open Go.RowKit Go.Joins Go.ChangeShapes Go.WideShapes
set_option linter.unusedVariables false

/-- the state of a list of entries that a call makes: from block base on -/
structure EnS (W w : World) (base : Nat) (v : Value) (L : List Ev) (l : List Ent) : Prop where
  own : OwE w base v L
  len : L.length = l.length
  keys : ∀ (i : Nat) (p : Ev) (e : Ent), L[i]? = some p → l[i]? = some e → OwK w base p.1 e.1 ∧ TyK w p.1 ∧ p.2 = e.2
  bel : Below base W w
  sz : base ≤ w.heap.size
theorem TyK.step {w w1 : World} {v : Value} {F : Bl} (h : TyK w v) (hf : Frm F w w1) (hd : ∀ k, v.ownBlock = some k → ¬ F k) : TyK w1 v := by
  intro g hg
  obtain ⟨cs, fr, hh⟩ := h g hg
  exact ⟨cs, fr, (hf.heap (Array.getElem?_eq_some_iff.1 hh).1 (hd g hg)).trans hh⟩
theorem EnS.step {W w w1 : World} {base : Nat} {v : Value} {L : List Ev} {l : List Ent} (h : EnS W w base v L l) (hb : Below w.heap.size w w1) : EnS W w1 base v L l :=
  ⟨h.own.below hb, h.len, fun i p e hp he => ⟨(h.keys i p e hp he).1.below hb, (h.keys i p e hp he).2.1.step (Frm.of_below (F := fun _ => False) hb) (fun _ _ h => h), (h.keys i p e hp he).2.2⟩, h.bel.trans (hb.mono h.sz), Nat.le_trans h.sz hb.size⟩
theorem EnS.alloc {W w : World} {base : Nat} {v : Value} {L : List Ev} {l : List Ent} (h : EnS W w base v L l) (o : Obj) : EnS W (w.alloc o) base v L l := h.step ((Below.refl _ _).alloc (Nat.le_refl _) _)
theorem OwE.ty {w : World} {base : Nat} {v : Value} {L : List Ev} (h : OwE w base v L) : ∀ g, v.ownBlock = some g → ∃ cs fr, w.heap[g]? = some (.cells cs 42 fr) := by
  intro g hg
  rcases h.1.2 with ⟨rfl, _⟩ | ⟨g', cap, cur, rfl, hb, hg', _⟩
  · simp [Value.ownBlock] at hg
  · simp only [Value.ownBlock, Option.some.injEq] at hg
    subst hg
    exact ⟨_, _, hg'⟩
theorem apartK {w : World} {base : Nat} {v u : Value} {L : List Ev} (h : OwE w base v L) (hu : TyK w u) : ∀ k, u.ownBlock = some k → ¬ v.ownBlock = some k := by
  intro k hk hv
  obtain ⟨_, _, h1⟩ := h.ty k hv
  obtain ⟨_, _, h2⟩ := hu k hk
  rw [h1] at h2
  injection h2 with h2
  injection h2 with _ h3 _
  exact absurd h3 (by decide)
theorem EnS.push {W w w1 : World} {base : Nat} {v v' : Value} {L : List Ev} {l : List Ent} {p : Ev} {e : Ent} (h : EnS W w base v L l) (hk : OwK w base p.1 e.1) (ht : TyK w p.1) (hn : p.2 = e.2) (ho : OwE w1 base v' (L ++ [p])) (hg : w.grownBy w1 v.ownBlock) : EnS W w1 base v' (L ++ [p]) (l ++ [e]) := by
  have hf : Frm (fun k => v.ownBlock = some k) w w1 := Frm.ofGrown hg (fun k e => e)
  have key : ∀ u k, OwK w base u k → TyK w u → OwK w1 base u k ∧ TyK w1 u := fun u k h1 h2 => ⟨h1.step hf (apartK h.own h2), h2.step hf (apartK h.own h2)⟩
  refine ⟨ho, by rw [List.length_append, List.length_append, h.len]; rfl, fun i q x hq hx => ?_, h.bel.grown hg h.sz (fun k hk => (h.own.1.lt k hk).1), Nat.le_trans h.sz hg.size⟩
  by_cases c : i < L.length
  · rw [List.getElem?_append_left c] at hq
    rw [List.getElem?_append_left (by rw [← h.len]; exact c)] at hx
    obtain ⟨a, b, d⟩ := h.keys i q x hq hx
    exact ⟨(key _ _ a b).1, (key _ _ a b).2, d⟩
  · rw [List.getElem?_append_right (by omega)] at hq
    rw [List.getElem?_append_right (by rw [← h.len]; omega), ← h.len] at hx
    have : i - L.length = 0 := by
      have := (List.getElem?_eq_some_iff.1 hq).1
      simpa using this
    rw [this] at hq hx
    simp only [List.getElem?_cons_zero, Option.some.injEq] at hq hx
    subst hq hx
    exact ⟨(key _ _ hk ht).1, (key _ _ hk ht).2, hn⟩
theorem EnS.mex {W w : World} {base : Nat} {v : Value} {L : List Ev} {l : List Ent} (h : EnS W w base v L l) : MEx base w (fun k => base ≤ k ∧ k < w.heap.size) v L l :=
  ⟨h.own, ⟨h.len, fun i p e hp he => ⟨(h.keys i p e hp he).1.keyAt (h.keys i p e hp he).1.lt, (h.keys i p e hp he).2.2⟩⟩, fun k hk => h.own.1.lt k hk, fun k hk => hk⟩
theorem Frm.of_below' {w w1 : World} {base : Nat} (hb : Below base w w1) : Frm (fun k => base ≤ k) w w1 := ⟨hb.os, hb.tape, hb.output, hb.size, fun k _ hf => hb.block k (by omega)⟩

set_option maxHeartbeats 4000000 in
set_option maxRecDepth 100000 in
theorem app_leaf (B : Nat) (W : World) (base : Nat) (F : Bl) (g : Nat) (lo : List Nat) (ps : List Pv) (es : List Ent) (h : Sub B 0 W F g lo ps es) (hF : ∀ k, F k → k < base) (w : World) (lv : Value) (L : List Ev) (l : List Ent) (hl : EnS W w base lv L l) (hsz : l.length + es.length ≤ 4294967296) :
    Calls Try.prog 39 #[.pointer (some ⟨g, 0, none⟩), lv] w fun e w' => ∃ v' L', e = .returned v' ∧ EnS W w' base v' L' (l ++ es) := by
  generalize hP : (fun (e : Ending) (w' : World) => ∃ v' L', e = .returned v' ∧ EnS W w' base v' L' (l ++ es)) = P
  have HP := Lib.hid hP
  have hst : ∀ wx, Below base W wx → Sub B 0 wx F g lo ps es := fun wx hb => h.step (Frm.of_below' hb) (fun k hk hb => by have := hF k hk; omega)
  obtain ⟨v, G, ss⟩ := h
  have hes := ss.con.2.2.1
  have hnone := ss.con.2.1
  obtain ⟨a, cap, rfl, -⟩ := ss.nd.form
  obtain ⟨n, en⟩ : ∃ n, ps.length = n := ⟨_, rfl⟩
  have hle : es.length = n := by rw [hes]; unfold ents; rw [List.length_map]; exact en
  have c0 : w.cell? ⟨g, 0, none⟩ = some (.slice a n cap) := by
    have hgb : g < base := hF g (by rw [ss.foot]; exact .inl rfl)
    have := (ss.nd.step (Frm.of_below' hl.bel) (by omega) (fun k hk hb => by have := hF k (by rw [ss.foot]; exact .inr (.inl hk)); omega)).cell.1
    rw [en] at this
    exact this
  have HAT := Lib.hid (show ∀ wx, Below base W wx → ∀ (j : Nat) (p : Pv), ps[j]? = some p → ∃ gb, a = some ⟨gb, 0, none⟩ ∧ wx.cell? ⟨gb, j * 3, none⟩ = some (.string p.1) ∧ wx.cell? ⟨gb, j * 3 + 1, none⟩ = some (.int .i64 p.2.1) ∧ wx.cell? ⟨gb, j * 3 + 2, none⟩ = some (.pointer none) by
    intro wx hb j p hp
    have hnd := ss.nd.step (Frm.of_below' hb) (by have := hF g (by rw [ss.foot]; exact .inl rfl); omega) (fun k hk hb => by have := hF k (by rw [ss.foot]; exact .inr (.inl hk)); omega)
    obtain ⟨gb, cap', e, -, -, d0, d1, d2, -⟩ := hnd.own.at hp
    injection e with e
    rw [hnone p (List.mem_of_getElem? hp)] at d2
    exact ⟨gb, e, d0, d1, d2⟩)
  have HES := Lib.hid hes
  have EN := Lib.hid en
  have HLE := Lib.hid hle
  have HL := Lib.hid hl
  have HSZ := Lib.hid hsz
  have hlen9 : n ≤ 4294967296 := by omega
  clear hP hst ss hes hnone hl en hle hsz
  go_enter Try.func39, Try.ntmps39
  go_wp2
  go_loopw [1, 12] (fun v i wr => ∃ (j : Nat) (L' : List Ev), j ≤ n ∧ i = .int .i64 j ∧ Hid (EnS W wr base v L' (l ++ es.take j))) (fun _ i _ => n - (intOf i).toNat)
  case atStart => exact ⟨0, L, Nat.zero_le _, rfl, by rw [List.take_zero, List.append_nil]; exact HL.out⟩
  case round =>
    obtain ⟨j, L', hj, rfl, HE⟩ := hrel
    by_cases c : j < n
    · have c1 : (j : Int) < (n : Int) := by omega
      have hp : ps[j]? = some (ps[j]'(by rw [EN.out]; exact c)) := List.getElem?_eq_getElem _
      generalize ps[j]'(by rw [EN.out]; exact c) = p at *
      obtain ⟨gb, rfl, d0, d1, d2⟩ := HAT.out wr HE.out.bel j p hp
      have hgbl : gb < wr.heap.size := World.block_lt_of_cell? wr ⟨gb, j * 3, none⟩ d0
      have HTK := Lib.hid (show es.take (j + 1) = es.take j ++ [(sl p.1, p.2.1)] by
        rw [List.take_add_one, HES.out]
        unfold ents
        rw [List.getElem?_map, hp]; rfl)
      obtain ⟨s, m, kk⟩ := p
      dsimp only at d0 d1 HTK
      have HLL := Lib.hid (show L'.length + 1 ≤ 4294967297 by
        rw [HE.out.len, List.length_append, List.length_take]; have := HSZ.out; have := HLE.out; omega)
      have HPE := Lib.hid (fun wx => pentry_ty wx s m)
      unfold PtV at HPE
      clear hp
      go_wp2_with (first | (go_at_call 37; refine (HPE.out _).mono ?_; rintro e w5 ⟨v5, rfl, o5, b5, t5⟩; obtain ⟨g5, cp5, rfl, ho5⟩ := o5; have HE5 := Lib.hid ((HE.out.alloc _).step b5); have HK5 := Lib.hid (And.intro (OwK.le (show OwK w5 _ (.slice (some ⟨g5, 0, none⟩) (sl s).length cp5) (sl s) from ⟨g5, cp5, rfl, ho5⟩) (HE.out.alloc _).sz) t5); clear ho5 b5 t5) | (at_builtin; refine wp_pushE rfl _ _ rfl base _ L' rfl (HE5.out.own.alloc _) ⟨w5.heap.size, 0, none⟩ 1 (.slice (some ⟨g5, 0, none⟩) (sl s).length cp5, m) rfl (newsE w5 _ m) rfl HLL.out (HE5.out.alloc _).sz ?_; intro v6 w6 hown6 hgrow6; have HE6 := Lib.hid ((HE5.out.alloc _).push (p := (.slice (some ⟨g5, 0, none⟩) (sl s).length cp5, m)) (e := (sl s, m)) (HK5.out.1.below ((Below.refl _ _).alloc (Nat.le_refl _) _)) (HK5.out.2.step (Frm.of_below (F := fun _ => False) ((Below.refl _ _).alloc (Nat.le_refl _) _)) (fun _ _ h => h)) rfl hown6 hgrow6); clear hown6 hgrow6))
      go_roundw
      case rel => exact ⟨j + 1, _, by omega, by go_num, by rw [HTK.out, ← List.append_assoc]; exact HE6.out⟩
      case measure => simp [intOf]; omega
    · obtain rfl : j = n := by omega
      have hfin : P (.returned u1) wr := by
        rw [← HP.out]
        refine ⟨u1, L', rfl, ?_⟩
        have := HE.out
        rw [List.take_of_length_le (by rw [HLE.out]; exact Nat.le_refl _)] at this
        exact this
      have HF := Lib.hid hfin
      clear hfin
      go_wp2
      exact HF.out

end Go.Proofs.Ytncganfjbalkgaa
