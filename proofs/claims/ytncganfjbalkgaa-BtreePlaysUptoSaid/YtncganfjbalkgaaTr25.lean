/-
  A tree of the law's own, and what must stay beside it; the law's example (speaks).
  Conditions: none.
-/
import Derived.Test.YtncganfjbalkgaaTr24
import Derived.Test.YtncganfjbalkgaaBulk
import Derived.Lib.SlBytesConst
namespace Go.Proofs.Ytncganfjbalkgaa
open Go.RowKit Go.Joins Go.ChangeShapes Go.WideShapes
set_option linter.unusedVariables false

/-- a tree that lies from W's end on; the blocks of K are none of its own -/
def Tc (W w : World) (t : Nat) (es : List Ent) (K : Bl) : Prop := ∃ F, TrX W.heap.size w F t es ∧ (∀ k, K k → ¬ F k ∧ k < w.heap.size) ∧ Below W.heap.size W w
def Kept' (K : Bl) (w w' : World) : Prop := ∀ k, K k → w'.heap[k]? = w.heap[k]?
theorem Tc.below {W w w1 : World} {t : Nat} {es : List Ent} {K : Bl} (h : Tc W w t es K) (hb : Below w.heap.size w w1) : Tc W w1 t es K := by
  obtain ⟨F, h1, h2, h3⟩ := h
  exact ⟨F, h1.below hb, fun k hk => ⟨(h2 k hk).1, Nat.lt_of_lt_of_le (h2 k hk).2 hb.size⟩, stepB h3 hb⟩
theorem Tc.bel {W w : World} {t : Nat} {es : List Ent} {K : Bl} (h : Tc W w t es K) : Below W.heap.size W w := h.choose_spec.2.2
theorem Tc.mono {W w : World} {t : Nat} {es : List Ent} {K K' : Bl} (h : Tc W w t es K) (hk : ∀ k, K' k → K k) : Tc W w t es K' := by
  obtain ⟨F, h1, h2, h3⟩ := h
  exact ⟨F, h1, fun k hk' => h2 k (hk k hk'), h3⟩
/-- what is new is none of the tree's -/
theorem Tc.more {W w w1 : World} {t : Nat} {es : List Ent} {K K' : Bl} (h : Tc W w t es K) (hb : Below w.heap.size w w1) (hk : ∀ k, K' k → K k ∨ (w.heap.size ≤ k ∧ k < w1.heap.size)) : Tc W w1 t es K' := by
  obtain ⟨F, h1, h2, h3⟩ := h
  refine ⟨F, h1.below hb, fun k hk' => ?_, stepB h3 hb⟩
  rcases hk k hk' with q | q
  · exact ⟨(h2 k q).1, Nat.lt_of_lt_of_le (h2 k q).2 hb.size⟩
  · exact ⟨fun e => by have := (h1.low k e).2; omega, q.2⟩
/-- writing into blocks of K -/
theorem Tc.write {W w w1 : World} {t : Nat} {es : List Ent} {K F1 : Bl} (h : Tc W w t es K) (hf : Frm F1 w w1) (h1 : ∀ k, F1 k → K k ∧ W.heap.size ≤ k) : Tc W w1 t es K := by
  obtain ⟨F, q1, q2, q3⟩ := h
  exact ⟨F, q1.step hf (fun k hk e => (q2 k (h1 k e).1).1 hk), fun k hk => ⟨(q2 k hk).1, Nat.lt_of_lt_of_le (q2 k hk).2 hf.size⟩, q3.trans (hf.below (fun k hk => (h1 k hk).2) q3.size)⟩
theorem tc_frm {W w w' : World} {t : Nat} {es es' : List Ent} {K F F' : Bl} (h2 : ∀ k, K k → ¬ F k ∧ k < w.heap.size) (h3 : Below W.heap.size W w) (h1 : TrX W.heap.size w F t es) (hf : Frm F w w') (hn : New w F F') (ht : TrX W.heap.size w' F' t es') : Tc W w' t es' K ∧ Kept' K w w' := by
  refine ⟨⟨F', ht, fun k hk => ⟨fun e => ?_, Nat.lt_of_lt_of_le (h2 k hk).2 hf.size⟩, h3.trans (hf.below (fun k hk => (h1.low k hk).1) h3.size)⟩, fun k hk => hf.block k (h2 k hk).2 (h2 k hk).1⟩
  rcases hn k e with q | q
  · exact (h2 k hk).1 q
  · have := (h2 k hk).2; omega
theorem tc_put {W w : World} {t : Nat} {es : List Ent} {K : Bl} (h : Tc W w t es K) (hn : es.length ≤ 134217728) {R : Bl} {u : Value} {k : List Nat} (hu : KeyAt w R u k) (id : Int) :
    Calls Try.prog 12 #[.pointer (some ⟨t, 0, none⟩), u, .int .i64 id] w fun e w' => e = .returned (.bool (!(ePl es k).2)) ∧ Tc W w' t (ePut es k id) K ∧ Kept' K w w' := by
  obtain ⟨F, h1, h2, h3⟩ := h
  refine (tput_any _ w F t es h1 (by omega) R u k hu id).mono ?_
  rintro e w' ⟨rfl, F', hf, hnw, ht⟩
  exact ⟨rfl, tc_frm h2 h3 h1 hf hnw ht⟩
theorem tc_drop {W w : World} {t : Nat} {es : List Ent} {K : Bl} (h : Tc W w t es K) (hn : es.length ≤ 134217728) {R : Bl} {u : Value} {k : List Nat} (hu : KeyAt w R u k) :
    Calls Try.prog 14 #[.pointer (some ⟨t, 0, none⟩), u] w fun e w' => e = .returned (.bool (ePl es k).2) ∧ Tc W w' t (eDel es k) K ∧ Kept' K w w' := by
  obtain ⟨F, h1, h2, h3⟩ := h
  refine (tdrop_any _ w F t es h1 (by omega) R u k hu).mono ?_
  rintro e w' ⟨rfl, F', hf, hnw, ht⟩
  exact ⟨rfl, tc_frm h2 h3 h1 hf hnw ht⟩
theorem tc_new (w : World) : Calls Try.prog 8 #[] w fun e w' => ∃ t, e = .returned (.pointer (some ⟨t, 0, none⟩)) ∧ Tc w w' t [] (fun _ => False) ∧ Below w.heap.size w w' := by
  refine (tnew_any w).mono ?_
  rintro e w' ⟨t, F, rfl, h1, hb⟩
  exact ⟨t, rfl, ⟨F, h1, fun _ h => h.elim, hb⟩, hb⟩
/-- one byte as a key -/
theorem key1 (w : World) (x : Nat) (hx : x < 256) (z : Int) (hz : z = (x : Int)) : KeyAt (w.alloc (.cells #[.int .u8 z] 5 (1, 2))) (fun _ => True) (.slice (some ⟨w.heap.size, 0, none⟩) 1 1) [x] := by
  subst hz
  refine ⟨_, w.heap.size, 0, 1, rfl, .inr ⟨rfl, trivial⟩, ⟨fun _ => by simp, fun i y hy => ?_, fun y hy => by simp at hy; subst hy; exact hx⟩⟩
  have hi : i = 0 := by have := (List.getElem?_eq_some_iff.1 hy).1; simpa using this
  subst hi
  simp at hy
  subst hy
  rw [cell_of_block (heap_alloc_new w _)]
  rfl

/-- a call with a key of one byte that has just been made -/
theorem tc_put1 {W w : World} {t : Nat} {es es' : List Ent} {K : Bl} (h : Tc W w t es K) (x : Nat) (z id : Int) (b : Bool) (hx : x < 256) (hz : z = (x : Int)) (hn : es.length ≤ 134217728) (hb : (!(ePl es [x]).2) = b) (he : ePut es [x] id = es') :
    Calls Try.prog 12 #[.pointer (some ⟨t, 0, none⟩), .slice (some ⟨w.heap.size, 0, none⟩) 1 1, .int .i64 id] (w.alloc (.cells #[.int .u8 z] 5 (1, 2))) fun e w' => e = .returned (.bool b) ∧ Tc W w' t es' K ∧ Kept' K w w' := by
  refine (tc_put (h.below ((Below.refl _ _).alloc (Nat.le_refl _) _)) hn (key1 w x hx z hz) id).mono ?_
  rintro e w' ⟨rfl, h1, h2⟩
  rw [hb]
  rw [he] at h1
  refine ⟨rfl, h1, fun k hk => (h2 k hk).trans ?_⟩
  obtain ⟨F, _, q, _⟩ := h
  exact heap_alloc_old w _ (q k hk).2
theorem tc_drop1 {W w : World} {t : Nat} {es es' : List Ent} {K : Bl} (h : Tc W w t es K) (x : Nat) (z : Int) (b : Bool) (hx : x < 256) (hz : z = (x : Int)) (hn : es.length ≤ 134217728) (hb : (ePl es [x]).2 = b) (he : eDel es [x] = es') :
    Calls Try.prog 14 #[.pointer (some ⟨t, 0, none⟩), .slice (some ⟨w.heap.size, 0, none⟩) 1 1] (w.alloc (.cells #[.int .u8 z] 5 (1, 2))) fun e w' => e = .returned (.bool b) ∧ Tc W w' t es' K ∧ Kept' K w w' := by
  refine (tc_drop (h.below ((Below.refl _ _).alloc (Nat.le_refl _) _)) hn (key1 w x hx z hz)).mono ?_
  rintro e w' ⟨rfl, h1, h2⟩
  rw [hb]
  rw [he] at h1
  refine ⟨rfl, h1, fun k hk => (h2 k hk).trans ?_⟩
  obtain ⟨F, _, q, _⟩ := h
  exact heap_alloc_old w _ (q k hk).2
theorem conv_same (z : Int) (n c : Nat) (wx : World) : (convert 29 29 (.slice (some ⟨wx.heap.size, 0, none⟩) n c)).run Try.prog (wx.alloc (.cells #[.int .u8 z] 5)) = .ok (.slice (some ⟨wx.heap.size, 0, none⟩) n c) (wx.alloc (.cells #[.int .u8 z] 5 (1, 2))) :=
  Lib.run_convert_bytes_const wx 29 5 #[.int .u8 z] n c Try.underlying29 Try.underlying5
theorem isum_two : ∀ (r : List Int), (∀ x ∈ r, 2 ≤ x) → 2 * (r.length : Int) ≤ isum r
  | [], _ => by simp [isum]
  | a :: r, h => by
    have h1 := isum_two r (fun x hx => h x (List.mem_cons_of_mem _ hx))
    have h2 := h a (List.mem_cons_self ..)
    simp only [isum, List.length_cons]
    omega
theorem isum_four : ∀ (r : List Int), (∀ x ∈ r, 4 ≤ x) → 4 * (r.length : Int) ≤ isum r
  | [], _ => by simp [isum]
  | a :: r, h => by
    have h1 := isum_four r (fun x hx => h x (List.mem_cons_of_mem _ hx))
    have h2 := h a (List.mem_cons_self ..)
    simp only [isum, List.length_cons]
    omega
/-- three entries: one level -/
theorem shape_three {sh : List (List Int)} (h : ShOk sh 3) : sh.length = 1 := by
  have h1 := h.len1
  rcases Nat.lt_or_ge 1 sh.length with c | c
  · exfalso
    have hne : ∀ (i : Nat) (r : List Int), sh[i]? = some r → 1 ≤ r.length := by
      intro i
      induction i with
      | zero => intro r hr; rw [h.top r hr]; exact Nat.le_refl _
      | succ i ih =>
        intro r hr
        have hl := (List.getElem?_eq_some_iff.1 hr).1
        have hp : sh[i]? = some (sh[i]'(by omega)) := List.getElem?_eq_getElem _
        have q1 := ih _ hp
        have q2 := h.mid i _ r hp hr
        have q3 := isum_two _ (fun x hx => by
          have := (h.el i _ x hp hx).1
          unfold shLow at this
          split at this
          · rw [if_neg (by omega)] at this; exact this
          · omega)
        omega
    have hp : sh[sh.length - 1]? = some (sh[sh.length - 1]'(by omega)) := List.getElem?_eq_getElem _
    have q1 := hne _ _ hp
    have q2 := h.last _ _ hp (by omega)
    have q3 := isum_four _ (fun x hx => by
      have := (h.el _ _ x hp hx).1
      unfold shLow at this
      rw [if_neg (by omega)] at this
      exact this)
    omega
  · omega

/-- a literal of one byte lies in block b -/
theorem key1' {w : World} {b : Nat} (x : Nat) (hx : x < 256) (z : Int) (hz : z = (x : Int)) (h : w.heap[b]? = some (.cells #[.int .u8 z] 5 (1, 2))) : KeyAt w (fun _ => True) (.slice (some ⟨b, 0, none⟩) 1 1) [x] := by
  subst hz
  refine ⟨_, b, 0, 1, rfl, .inr ⟨rfl, trivial⟩, ⟨fun _ => (Array.getElem?_eq_some_iff.1 h).1, fun i y hy => ?_, fun y hy => by simp at hy; subst hy; exact hx⟩⟩
  have hi : i = 0 := by have := (List.getElem?_eq_some_iff.1 hy).1; simpa using this
  subst hi
  simp at hy
  subst hy
  rw [cell_of_block h]
  rfl
theorem key_of {w w' : World} {g cap B : Nat} {l : List Nat} (h : B ≤ g ∧ g < w.heap.size ∧ (∀ (i x : Nat), l[i]? = some x → w.cell? ⟨g, i, none⟩ = some (.int .u8 (x : Int))) ∧ (∀ (i : Nat), i < l.length → w.frozen? ⟨g, i, none⟩ = false) ∧ ∀ (x : Nat), x ∈ l → x < 256) (hb : Below w.heap.size w w') : KeyAt w' (fun _ => True) (.slice (some ⟨g, 0, none⟩) l.length cap) l := by
  obtain ⟨h1, h2, h3, h4, h5⟩ := h
  refine ⟨_, g, 0, cap, rfl, .inr ⟨rfl, trivial⟩, ⟨fun _ => Nat.lt_of_lt_of_le h2 hb.size, fun i y hy => ?_, h5⟩⟩
  rw [hb.cell h2, Nat.zero_add]
  exact h3 i y hy
theorem CurAt.kept {w w' : World} {c t : Nat} {st : Option (List Nat)} (h : CurAt w c t st) (hk : w'.heap[c]? = w.heap[c]?) : CurAt w' c t st := by
  obtain ⟨s, b, h1, h2⟩ := h
  exact ⟨s, b, hk.trans h1, h2⟩
theorem ents_bel {w w' : World} {v : Value} {L : List Ev} {es : List Ent} (h : EnS w w' w.heap.size v L es) : Below w.heap.size w w' := h.bel
theorem ents_len {w w' : World} {v : Value} {L : List Ev} {es : List Ent} (h : EnS w w' w.heap.size v L es) : ∃ a n c, v = .slice a n c ∧ n = es.length := by
  obtain ⟨g, cap, e, -⟩ := h.own.form
  exact ⟨_, _, _, e, h.len⟩
theorem tc_from1 {W w wx : World} {t : Nat} {es : List Ent} {K : Bl} (h : Tc W w t es K) {b : Nat} (x : Nat) (z : Int) (y : Ent) (hx : x < 256) (hz : z = (x : Int)) (hb : Below w.heap.size w wx) (hl : wx.heap[b]? = some (.cells #[.int .u8 z] 5 (1, 2))) (hy : es[(ePl es [x]).1]? = some y) :
    Calls Try.prog 16 #[.pointer (some ⟨t, 0, none⟩), .slice (some ⟨b, 0, none⟩) 1 1] wx fun e w' => ∃ v, e = .returned (.tuple #[.agg #[v, .int .i64 y.2], .bool true]) ∧ OwK w' wx.heap.size v y.1 ∧ Below wx.heap.size wx w' := by
  obtain ⟨F, h1, h2, h3⟩ := h
  refine (tfrom_any _ wx F t es (h1.below hb) _ _ [x] (key1' x hx z hz hl)).mono ?_
  rintro e w' ⟨q1, ⟨x', v, q2, q3, q4⟩ | ⟨q2, q3⟩⟩
  · rw [hy] at q2
    cases q2
    exact ⟨v, q4, q3, q1⟩
  · rw [hy] at q2; cases q2
theorem tc_seek1 {W w wx : World} {t : Nat} {es : List Ent} {K : Bl} (h : Tc W w t es K) {b : Nat} (x : Nat) (z : Int) (st : Option (List Nat)) (hx : x < 256) (hz : z = (x : Int)) (hb : Below w.heap.size w wx) (hl : wx.heap[b]? = some (.cells #[.int .u8 z] 5 (1, 2))) (hy : seekSt es [x] = st) :
    Calls Try.prog 9 #[.pointer (some ⟨t, 0, none⟩), .slice (some ⟨b, 0, none⟩) 1 1] wx fun e w' => ∃ c, e = .returned (.pointer (some ⟨c, 0, none⟩)) ∧ CurAt w' c t st ∧ Tc W w' t es (fun k => K k ∨ k = c) ∧ Below wx.heap.size wx w' ∧ W.heap.size ≤ c := by
  have hT := h.below hb
  have hbT := hb
  obtain ⟨F, h1, h2, h3⟩ := h
  refine (tseek_any _ wx F t es (h1.below hb) _ _ [x] (key1' x hx z hz hl)).mono ?_
  rintro e w' ⟨c, q1, q2, q3, q4⟩
  rw [hy] at q4
  refine ⟨c, q1, q4, hT.more q3 ?_, q3, Nat.le_trans hT.bel.size q2⟩
  rintro k (q | rfl)
  · exact .inl q
  · exact .inr ⟨q2, q4.lt⟩
theorem tc_entry {W w wx : World} {t c : Nat} {es : List Ent} {K : Bl} {st : Option (List Nat)} (h : Tc W w t es K) (hc : CurAt w c t st) (hb : Below w.heap.size w wx) : Calls Try.prog 27 #[.pointer (some ⟨c, 0, none⟩)] wx (EntPost wx es st) := by
  obtain ⟨F, h1, h2, h3⟩ := h
  exact centry_any _ wx F t es (h1.below hb) c st (hc.step (Frm.of_below (F := fun _ => False) hb) (fun h => h))
theorem tc_next {W w : World} {t c : Nat} {es : List Ent} {K : Bl} {st st' : Option (List Nat)} (h : Tc W w t es K) (hK : K c) (hW : W.heap.size ≤ c) (hc : CurAt w c t st) (hsz : ∀ k, st = some k → k.length ≤ 17592186044416) (hs : (st.bind fun k => seekSt es (k ++ [0])) = st') :
    Calls Try.prog 20 #[.pointer (some ⟨c, 0, none⟩)] w fun e w' => e = .returned (.bool st'.isSome) ∧ Tc W w' t es K ∧ CurAt w' c t st' := by
  have hT := h
  obtain ⟨F, h1, h2, h3⟩ := h
  refine (cnext_any _ w F t es h1 c st hc hsz).mono ?_
  rintro e w' ⟨rfl, q1, q2⟩
  rw [hs] at q2 ⊢
  exact ⟨rfl, hT.write q1 (fun k hk => by subst hk; exact ⟨hK, hW⟩), q2⟩
theorem tc_get1 {W w wx : World} {t : Nat} {es : List Ent} {K : Bl} (h : Tc W w t es K) {b : Nat} (x : Nat) (z id : Int) (hx : x < 256) (hz : z = (x : Int)) (hb : Below w.heap.size w wx) (hl : wx.heap[b]? = some (.cells #[.int .u8 z] 5 (1, 2))) (hp : (ePl es [x]).2 = true) (hy : es[(ePl es [x]).1]? = some ([x], id)) :
    Calls Try.prog 30 #[.pointer (some ⟨t, 0, none⟩), .slice (some ⟨b, 0, none⟩) 1 1] wx fun e w' => e = .returned (.tuple #[.int .i64 id, .bool true]) ∧ Below wx.heap.size wx w' := by
  obtain ⟨F, h1, h2, h3⟩ := h
  refine (tget_any _ wx F t es (h1.below hb) _ _ [x] (key1' x hx z hz hl)).mono ?_
  rintro e w' ⟨q1, ⟨q2, n, q3, rfl⟩ | ⟨q2, q3⟩⟩
  · rw [hy] at q3
    cases q3
    exact ⟨rfl, q1⟩
  · rw [hp] at q2; cases q2
theorem ent_no {w wx : World} {es : List Ent} {k : List Nat} {e : Ending} (h : EntPost w es (some k) e wx) (hp : (ePl es k).2 = false) : e = .returned (.tuple #[.agg #[.slice none 0 0, .int .i64 0], .bool false]) ∧ Below w.heap.size w wx := by
  obtain ⟨q1, ⟨k', n, v, q2, q3, q4⟩ | ⟨q2, q3⟩⟩ := h
  · cases q2; rw [hp] at q3; cases q3
  · exact ⟨q3, q1⟩
theorem ent_yes {w wx : World} {es : List Ent} {k : List Nat} {n : Int} {e : Ending} (h : EntPost w es (some k) e wx) (hp : (ePl es k).2 = true) (hy : es[(ePl es k).1]? = some (k, n)) : ∃ v, e = .returned (.tuple #[.agg #[v, .int .i64 n], .bool true]) ∧ OwK wx w.heap.size v k ∧ Below w.heap.size w wx := by
  obtain ⟨q1, ⟨k', n', v, q2, q3, q4, q5, q6⟩ | ⟨q2, q3⟩⟩ := h
  · cases q2; rw [hy] at q4; cases q4
    exact ⟨v, q6, q5, q1⟩
  · rw [q2 _ rfl] at hp; cases hp
theorem tc_len {W w : World} {t : Nat} {es : List Ent} {K : Bl} (h : Tc W w t es K) : Calls Try.prog 25 #[.pointer (some ⟨t, 0, none⟩)] w fun e w' => e = .returned (.int .i64 (es.length : Nat)) ∧ w = w' := by
  obtain ⟨F, h1, h2, h3⟩ := h
  exact tlen_any _ w F t es h1
theorem tc_ents {W w : World} {t : Nat} {es : List Ent} {K : Bl} (h : Tc W w t es K) (hsz : es.length ≤ 4294967296) : Calls Try.prog 26 #[.pointer (some ⟨t, 0, none⟩)] w fun e w' => ∃ v L, e = .returned v ∧ EnS w w' w.heap.size v L es := by
  obtain ⟨F, h1, h2, h3⟩ := h
  exact tents_any _ w F t es h1 hsz
theorem tc_shape {W w : World} {t : Nat} {es : List Ent} {K : Bl} (h : Tc W w t es K) (hn4 : es.length ≤ 134217728) : Calls Try.prog 24 #[.pointer (some ⟨t, 0, none⟩)] w fun e w' => ∃ g cap sh, e = .returned (.slice (some ⟨g, 0, none⟩) sh.length cap) ∧ ShOk sh (es.length : Nat) ∧ IsNN w' g 0 sh ∧ Below w.heap.size w w' := by
  obtain ⟨F, h1, h2, h3⟩ := h
  exact tshape_any _ w F t es h1 hn4

set_option maxHeartbeats 2000000 in
set_option maxRecDepth 100000 in
theorem speaks_any (W : World) : Calls Try.prog 7 #[] W fun e w' => e = .returned (.bool true) ∧ Below W.heap.size W w' := by
  generalize hP : (fun (e : Ending) (w' : World) => e = .returned (.bool true) ∧ Below W.heap.size W w') = P
  have HP := Lib.hid hP
  have HNEW := Lib.hid (tc_new W)
  have hcvt := conv_same
  clear hP
  go_enter Try.func7, Try.ntmps7
  go_upto_region 2 with (go_at_call 8; refine HNEW.out.mono ?_; rintro e w1 ⟨t, rfl, h1, b1⟩; have HT := Lib.hid h1; clear h1 b1)
  go_upto_region 4 with (first
    | (go_at_call 12; ((with_reducible refine (tc_put1 (es' := [([98], 2)]) HT.out 98 98 2 true (by decide) rfl (by decide) rfl rfl).mono ?_); rintro e w2 ⟨rfl, h2, -⟩; have HT2 := Lib.hid h2; clear h2))
    | (go_at_call 12; ((with_reducible refine (tc_put1 (es' := [([98], 2), ([100], 4)]) HT2.out 100 100 4 true (by decide) rfl (by decide) rfl rfl).mono ?_); rintro e w3 ⟨rfl, h2, -⟩; have HT3 := Lib.hid h2; clear h2))
    | (go_at_call 12; ((with_reducible refine (tc_put1 (es' := [([97], 1), ([98], 2), ([100], 4)]) HT3.out 97 97 1 true (by decide) rfl (by decide) rfl rfl).mono ?_); rintro e w4 ⟨rfl, h2, -⟩; have HT4 := Lib.hid h2; clear h2))
    | (go_at_call 12; ((with_reducible refine (tc_put1 (es' := [([97], 1), ([98], 2), ([100], 4)]) HT4.out 97 97 9 false (by decide) rfl (by decide) rfl rfl).mono ?_); rintro e w5 ⟨rfl, h2, -⟩; have HT5 := Lib.hid h2; clear h2)))
  go_upto_region 5 with (go_at_call 16; ((with_reducible refine (tc_from1 (b := w5.heap.size) HT5.out 99 99 ([100], 4) (by decide) rfl ((Below.refl _ _).alloc (Nat.le_refl _) _) (heap_alloc_new _ _) rfl).mono ?_); rintro e w6 ⟨v, rfl, h2, b2⟩; obtain ⟨g, cap, rfl, h3⟩ := h2; have HK := Lib.hid h3; have HB6 := Lib.hid b2; clear h3 b2))
  obtain ⟨b7, hb7⟩ : ∃ b, w6.heap.size = b := ⟨_, rfl⟩
  obtain ⟨w7, hw7, h71, h72⟩ : ∃ w7, w6.alloc (.cells #[.slice (some ⟨g, 0, none⟩) 1 cap, .int .i64 4] 42) = w7 ∧ w7.heap[b7]? = some (.cells #[.slice (some ⟨g, 0, none⟩) 1 cap, .int .i64 4] 42 (0, 0)) ∧ Below w6.heap.size w6 w7 := ⟨_, rfl, by rw [← hb7]; exact heap_alloc_new _ _, (Below.refl _ _).alloc (Nat.le_refl _) _⟩
  have hT7 := HT5.out.below (stepB ((Below.refl _ _).alloc (Nat.le_refl _) _) (stepB HB6.out h72))
  have HT7 := Lib.hid hT7
  have hk7 : KeyAt w7 (fun _ => True) (.slice (some ⟨g, 0, none⟩) 1 cap) [100] := key_of HK.out h72
  have HK7 := Lib.hid hk7
  have H71 := Lib.hid h71
  rw [hw7, hb7]
  clear hT7 hk7 h71 h72 HK HB6 hw7 hb7
  go_upto_region 6 with (go_at_call 9; ((with_reducible refine (tc_seek1 (b := w7.heap.size) HT7.out 98 98 (some [98]) (by decide) rfl ((Below.refl _ _).alloc (Nat.le_refl _) _) (heap_alloc_new _ _) rfl).mono ?_); rintro e w8 ⟨c, rfl, hc8, h8, b8, hcw⟩; have HC8 := Lib.hid hc8; have HT8 := Lib.hid h8; have HB8 := Lib.hid (stepB ((Below.refl _ _).alloc (Nat.le_refl _) _) b8); have HCW := Lib.hid hcw; clear hc8 h8 b8 hcw))
  have y0 : w8.cell? ⟨b7, 0, none⟩ = some (.slice (some ⟨g, 0, none⟩) 1 cap) := by rw [cell_of_block ((HB8.out.block _ (Array.getElem?_eq_some_iff.1 H71.out).1).trans H71.out)]; rfl
  have y1 : w8.cell? ⟨b7, 1, none⟩ = some (.int .i64 4) := by rw [cell_of_block ((HB8.out.block _ (Array.getElem?_eq_some_iff.1 H71.out).1).trans H71.out)]; rfl
  have y2 : (convert 29 9 (.slice (some ⟨g, 0, none⟩) 1 cap)).run Try.prog w8 = .ok (.string ⟨#[100]⟩) w8 := (HK7.out.step (Frm.of_below (F := fun _ => False) HB8.out) (fun _ _ h => h)).str
  clear H71 HK7 HB8
  go_upto_region 8 with (first
    | (go_at_call 14; ((with_reducible refine (tc_drop1 (es' := [([97], 1), ([100], 4)]) HT8.out 98 98 true (by decide) rfl (by decide) rfl rfl).mono ?_); rintro e w9 ⟨rfl, h2, k2⟩; have HT9 := Lib.hid h2; have HC9 := Lib.hid (HC8.out.kept (k2 c (.inr rfl))); clear h2 k2))
    | (go_at_call 12; ((with_reducible refine (tc_put1 (es' := [([97], 1), ([99], 3), ([100], 4)]) HT9.out 99 99 3 true (by decide) rfl (by decide) rfl rfl).mono ?_); rintro e w10 ⟨rfl, h2, k2⟩; have HT10 := Lib.hid h2; have HC10 := Lib.hid (HC9.out.kept (k2 c (.inr rfl))); clear h2 k2)))
  clear y0 y1 y2
  go_upto_region 9 with (go_at_call 27; ((with_reducible refine (tc_entry HT10.out HC10.out (Below.refl _ _)).mono ?_); rintro e w11 hE; obtain ⟨rfl, b11⟩ := ent_no hE rfl; have HB11 := Lib.hid b11; clear hE b11))
  obtain ⟨b12, hb12⟩ : ∃ b, w11.heap.size = b := ⟨_, rfl⟩
  obtain ⟨w12, hw12, h12⟩ : ∃ w12, w11.alloc (.cells #[.slice none 0 0, .int .i64 0] 42) = w12 ∧ Below w11.heap.size w11 w12 := ⟨_, rfl, (Below.refl _ _).alloc (Nat.le_refl _) _⟩
  have HT12 := Lib.hid (HT10.out.below (stepB HB11.out h12))
  have HC12 := Lib.hid (HC10.out.step (Frm.of_below (F := fun _ => False) (stepB HB11.out h12)) (fun h => h))
  rw [hw12, hb12]
  clear hw12 hb12 h12 HB11
  go_upto_region 10 with (go_at_call 20; ((with_reducible refine (tc_next (st' := some [99]) HT12.out (.inr rfl) HCW.out HC12.out (by intro k hk; cases hk; decide) rfl).mono ?_); rintro e w13 ⟨rfl, h2, k2⟩; have HT13 := Lib.hid h2; have HC13 := Lib.hid k2; clear h2 k2))
  go_upto_region 11 with (go_at_call 27; ((with_reducible refine (tc_entry HT13.out HC13.out (Below.refl _ _)).mono ?_); rintro e w14 hE; obtain ⟨v14, rfl, o14, b14⟩ := ent_yes (n := 3) hE rfl rfl; obtain ⟨g14, cap14, rfl, -⟩ := o14; have HB14 := Lib.hid b14; clear hE b14))
  obtain ⟨b15, hb15⟩ : ∃ b, w14.heap.size = b := ⟨_, rfl⟩
  obtain ⟨w15, hw15, h151, h152⟩ : ∃ w7, w14.alloc (.cells #[.slice (some ⟨g14, 0, none⟩) 1 cap14, .int .i64 3] 42) = w7 ∧ w7.heap[b15]? = some (.cells #[.slice (some ⟨g14, 0, none⟩) 1 cap14, .int .i64 3] 42 (0, 0)) ∧ Below w14.heap.size w14 w7 := ⟨_, rfl, by rw [← hb15]; exact heap_alloc_new _ _, (Below.refl _ _).alloc (Nat.le_refl _) _⟩
  have HT15 := Lib.hid (HT13.out.below (stepB HB14.out h152))
  have H151 := Lib.hid h151
  have hw15' : w14.alloc (.cells #[.slice (some ⟨g14, 0, none⟩) ([99] : List Nat).length cap14, .int .i64 3] 42) = w15 := hw15
  first | rw [hw15'] | rw [hw15]
  rw [hb15]
  clear h151 h152 HB14 hw15 hw15' hb15
  go_upto_region 12 with (go_at_call 30; ((with_reducible refine (tc_get1 (b := w15.heap.size) HT15.out 99 99 3 (by decide) rfl ((Below.refl _ _).alloc (Nat.le_refl _) _) (heap_alloc_new _ _) rfl rfl).mono ?_); rintro e w16 ⟨rfl, b16⟩; have HB16 := Lib.hid (stepB ((Below.refl _ _).alloc (Nat.le_refl _) _) b16); clear b16))
  have HT16 := Lib.hid (HT15.out.below HB16.out)
  have y1 : w16.cell? ⟨b15, 1, none⟩ = some (.int .i64 3) := by rw [cell_of_block ((HB16.out.block _ (Array.getElem?_eq_some_iff.1 H151.out).1).trans H151.out)]; rfl
  go_wp2_with (first
    | (go_at_call 25; ((with_reducible refine (tc_len HT16.out).mono ?_); rintro e w17 ⟨rfl, rfl⟩))
    | (go_at_call 26; ((with_reducible refine (tc_ents HT16.out (by decide)).mono ?_); rintro e w17 ⟨v17, L17, rfl, hE⟩; obtain ⟨a17, n17, c17, rfl, hn17⟩ := ents_len hE; have hz17 : n17 = 3 := hn17; subst hz17; have HT17 := Lib.hid (HT16.out.below (ents_bel hE)); clear hE))
    | (go_at_call 24; ((with_reducible refine (tc_shape HT17.out (by decide)).mono ?_); rintro e w18 ⟨g18, cap18, sh, rfl, hs18, -, b18⟩; have hz18 := shape_three hs18; rw [hz18]; have HT18 := Lib.hid (HT17.out.below b18); clear hs18 b18)))
  rw [← HP.out]
  exact ⟨rfl, HT18.out.bel⟩

end Go.Proofs.Ytncganfjbalkgaa
