/-
  The helpers of the law that plays a script on a tree: spoil, seek, shown, stood: contracts over the translation.
  Conditions: the tree and the document's list lie in memory and hold the same entries.
-/
import Derived.Test.YtncganfjbalkgaaTr28
import Derived.Test.YtncganfjbalkgaaEn3
namespace Go.Proofs.Ytncganfjbalkgaa
open Go.RowKit Go.Joins Go.ChangeShapes Go.WideShapes
set_option linter.unusedVariables false
set_option linter.unusedSimpArgs false

theorem sameentry_none (a : Option Addr) (c : Nat) (v : Value) (at0 : Int) (w : World) :
    Calls Try.prog 18 #[.agg #[.slice a 0 c, .int .i64 0], .bool false, v, .int .i64 at0, .bool false] w fun e w' => e = .returned (.bool true) ∧ Below w.heap.size w w' := by
  have hb : Below w.heap.size w (w.alloc (.cells #[.slice a 0 c, .int .i64 0] 42)) := (Below.refl _ _).alloc (Nat.le_refl _) _
  have HB := Lib.hid hb
  clear hb
  go_enter Try.func18, Try.ntmps18
  go_wp2
  go_ret
  exact ⟨rfl, HB.out⟩

set_option maxHeartbeats 1000000 in
theorem sameentry_some (B : Nat) (w : World) (R R2 : Bl) (v u : Value) (L : List Ev) (l : List Ent) (k : List Nat) (id : Int) (i : Nat) (h : MEx B w R v L l) (hn : l.length ≤ maxLen) (hl : l[i]? = some (k, id)) (hk : KeyAt w R2 u k) :
    Calls Try.prog 18 #[.agg #[u, .int .i64 id], .bool true, v, .int .i64 i, .bool true] w fun e w' => e = .returned (.bool true) ∧ Below w.heap.size w w' := by
  obtain ⟨a2, b2, off2, cap2, rfl, -⟩ := (show KeyAt w R2 u k from hk)
  have hb : Below w.heap.size w (w.alloc (.cells #[.slice a2 k.length cap2, .int .i64 id] 42)) := (Below.refl _ _).alloc (Nat.le_refl _) _
  have HB := Lib.hid hb
  have m1 := h.below hb
  have k2 := (hk.step (Frm.of_below (F := fun _ => False) hb) (fun _ _ h => h)).strN
  have x0 : (w.alloc (.cells #[.slice a2 k.length cap2, .int .i64 id] 42)).cell? ⟨w.heap.size, 0, none⟩ = some (.slice a2 k.length cap2) := by rw [cell_of_block (heap_alloc_new w _)]; rfl
  have x1 : (w.alloc (.cells #[.slice a2 k.length cap2, .int .i64 id] 42)).cell? ⟨w.heap.size, 1, none⟩ = some (.int .i64 id) := by rw [cell_of_block (heap_alloc_new w _)]; rfl
  obtain ⟨p, hp⟩ : ∃ p, L[i]? = some p := ⟨L[i]'(by have := (List.getElem?_eq_some_iff.1 hl).1; have := h.ents.len; omega), List.getElem?_eq_getElem _⟩
  obtain ⟨k1, e2⟩ := m1.ents.at' i p _ hp hl
  obtain ⟨g, capv, rfl, -, -, -, hc⟩ := m1.own.form
  obtain ⟨d0, d1⟩ := hc i p hp
  obtain ⟨u1, id1⟩ := p
  dsimp only at k1 e2 d0 d1
  subst e2
  have s1 := k1.strN
  have hi : (i : Int) < (L.length : Int) := by have := (List.getElem?_eq_some_iff.1 hp).1; omega
  have hi9 : i ≤ 9223372036854775807 := by have := (List.getElem?_eq_some_iff.1 hl).1; unfold maxLen at hn; omega
  generalize L.length = n at *
  generalize k.length = kn at *
  clear h hk hb m1 k1 hc hp hl hn
  go_enter Try.func18, Try.ntmps18
  go_wp2
  generalize (w.alloc (.cells #[.slice a2 kn cap2, .int .i64 id1] 42)) = wx at *
  generalize hgb : w.heap.size = gb at x0 x1 ⊢
  go_quiet (fail)
  go_wp2
  go_ret
  exact ⟨rfl, HB.out.trans ⟨rfl, rfl, rfl, Nat.le_refl _, fun _ _ => rfl⟩⟩


/-- cells that may be written -/
def WrK (w : World) (g n : Nat) : Prop := ∀ i, i < n → (∃ x, w.cell? ⟨g, i, none⟩ = some x) ∧ w.frozen? ⟨g, i, none⟩ = false
theorem some_set {w : World} {a b : Addr} {v : Value} (h : ∃ x, w.cell? b = some x) : ∃ x, (w.setCell a v).cell? b = some x := by
  obtain ⟨x, hx⟩ := h
  by_cases c : a = b
  · subst c
    exact ⟨v, World.cell?_setCell_same _ _ _ hx⟩
  · exact ⟨x, by rw [World.cell?_setCell_other _ _ _ _ c]; exact hx⟩
theorem WrK.set {w : World} {g n : Nat} (h : WrK w g n) (a : Addr) (v : Value) : WrK (w.setCell a v) g n := fun i hi => ⟨some_set (h i hi).1, by rw [World.frozen?_setCell]; exact (h i hi).2⟩
/-- a list of entries that may be spoiled: row g, keys vk -/
structure Spl (w : World) (G : Bl) (g n : Nat) (vk : Nat → Value) (lk : Nat → Nat) : Prop where
  gg : G g
  row : WrK w g (n * 2)
  at_ : ∀ i, i < n → w.cell? ⟨g, i * 2, none⟩ = some (vk i)
  key : ∀ i, i < n → ∃ (ad : Option Addr) (c : Nat), vk i = .slice ad (lk i) c ∧ (lk i = 0 ∨ ∃ gk, ad = some ⟨gk, 0, none⟩ ∧ gk ≠ g ∧ G gk ∧ WrK w gk (lk i))
/-- the state in a round -/
structure SpS (w wx : World) (G : Bl) (g n i : Nat) (vk : Nat → Value) (lk : Nat → Nat) : Prop where
  frm : Frm G w wx
  row : WrK wx g (n * 2)
  at_ : ∀ j, i ≤ j → j < n → wx.cell? ⟨g, j * 2, none⟩ = some (vk j)
  key : ∀ j, j < n → ∃ (ad : Option Addr) (c : Nat), vk j = .slice ad (lk j) c ∧ (lk j = 0 ∨ ∃ gk, ad = some ⟨gk, 0, none⟩ ∧ gk ≠ g ∧ G gk ∧ WrK wx gk (lk j))
theorem SpS.start {w : World} {G : Bl} {g n : Nat} {vk : Nat → Value} {lk : Nat → Nat} (h : Spl w G g n vk lk) : SpS w w G g n 0 vk lk := ⟨Frm.refl _ _, h.row, fun j _ hj => h.at_ j hj, h.key⟩
theorem SpS.inK {w wx : World} {G : Bl} {g n i gk o : Nat} {v : Value} {vk : Nat → Value} {lk : Nat → Nat} (h : SpS w wx G g n i vk lk) (hg : gk ≠ g) (hG : G gk) : SpS w (wx.setCell ⟨gk, o, none⟩ v) G g n i vk lk :=
  ⟨h.frm.setCell (.inl hG) o v, h.row.set _ _, fun j hj hn => by rw [World.cell?_setCell_other _ _ _ _ (by intro e; injection e with e; exact hg e)]; exact h.at_ j hj hn,
    fun j hj => by
      obtain ⟨ad, c, e, q⟩ := h.key j hj
      exact ⟨ad, c, e, q.imp_right fun ⟨k, a, b, d, f⟩ => ⟨k, a, b, d, f.set _ _⟩⟩⟩
theorem SpS.done {w wx : World} {G : Bl} {g n i : Nat} {u v : Value} {vk : Nat → Value} {lk : Nat → Nat} (h : SpS w wx G g n i vk lk) (hG : G g) : SpS w ((wx.setCell ⟨g, i * 2, none⟩ u).setCell ⟨g, i * 2 + 1, none⟩ v) G g n (i + 1) vk lk :=
  ⟨(h.frm.setCell (.inl hG) _ _).setCell (.inl hG) _ _, (h.row.set _ _).set _ _, fun j hj hn => by
      rw [World.cell?_setCell_other _ _ _ _ (by intro e; injection e with _ e; omega), World.cell?_setCell_other _ _ _ _ (by intro e; injection e with _ e; omega)]
      exact h.at_ j (by omega) hn,
    fun j hj => by
      obtain ⟨ad, c, e, q⟩ := h.key j hj
      exact ⟨ad, c, e, q.imp_right fun ⟨k, a, b, d, f⟩ => ⟨k, a, b, d, (f.set _ _).set _ _⟩⟩⟩

set_option maxHeartbeats 4000000 in
theorem spoil_any (w : World) (G : Bl) (g n cap : Nat) (vk : Nat → Value) (lk : Nat → Nat) (h : Spl w G g n vk lk) (hn : n ≤ 4294967296) (hlk : ∀ i, i < n → lk i ≤ 4294967296) :
    Calls Try.prog 19 #[.slice (some ⟨g, 0, none⟩) n cap] w fun e w' => e = .returned (.tuple #[]) ∧ Frm G w w' := by
  generalize hP : (fun (e : Ending) (w' : World) => e = .returned (.tuple #[]) ∧ Frm G w w') = P
  have HP := Lib.hid (show ∀ w', Frm G w w' → P (.returned (.tuple #[])) w' from fun w' h => by rw [← hP]; exact ⟨rfl, h⟩)
  have HS := Lib.hid (SpS.start h)
  have HG := Lib.hid h.gg
  clear h hP
  go_enter Try.func19, Try.ntmps19
  go_wp2
  go_loopw [6] (fun i wx => ∃ q : Nat, q ≤ n ∧ i = .int .i64 q ∧ SpS w wx G g n q vk lk) (fun i _ => n - (intOf i).toNat)
  case atStart => exact ⟨0, Nat.zero_le _, rfl, HS.out⟩
  case round =>
    obtain ⟨q, hq, rfl, hs⟩ := hrel
    by_cases c : q < n
    · have c1 : (q : Int) < (n : Int) := by omega
      have d0 := hs.at_ q (Nat.le_refl _) c
      obtain ⟨ad, ck, ev, hkk⟩ := hs.key q c
      have hl9 := hlk q c
      rw [ev] at d0
      obtain ⟨m, hm⟩ : ∃ m, lk q = m := ⟨_, rfl⟩
      rw [hm] at d0 hkk hl9
      have HSS := Lib.hid hs
      have EV := Lib.hid ev
      have HM := Lib.hid hm
      clear hs ev hm
      go_wp2
      go_loopw [15] (fun i wx => ∃ r : Nat, r ≤ m ∧ i = .int .i64 r ∧ SpS w wx G g n q vk lk) (fun i _ => m - (intOf i).toNat)
      case atStart => exact ⟨0, Nat.zero_le _, rfl, HSS.out⟩
      case round =>
        obtain ⟨r, hr, rfl, hs⟩ := hrel
        by_cases c2 : r < m
        · have c3 : (r : Int) < (m : Int) := by omega
          obtain ⟨gk, rfl, hgk, hGk, -⟩ : ∃ gk, ad = some ⟨gk, 0, none⟩ ∧ gk ≠ g ∧ G gk ∧ True := by
            rcases hkk with h | ⟨gk, h1, h2, h3, -⟩
            · omega
            · exact ⟨gk, h1, h2, h3, trivial⟩
          have d1 := hs.at_ q (Nat.le_refl _) c
          rw [EV.out, HM.out] at d1
          obtain ⟨ad', ck', e', hk'⟩ := hs.key q c
          rw [EV.out] at e'
          injection e' with e1 e2 e3
          have hw : WrK wr gk m := by
            rcases hk' with h | ⟨gk2, h1, -, -, h4⟩
            · have := HM.out; omega
            · rw [← e1] at h1
              injection h1 with h1
              injection h1 with h1
              subst h1
              rw [HM.out] at h4
              exact h4
          obtain ⟨⟨x, hx⟩, hfx⟩ := hw r c2
          have HS2 := Lib.hid (hs.inK (o := r) (v := .int .u8 238) hgk hGk)
          clear hs hk' e1 e2 e3 hw d0
          go_wp2
          go_roundw
          case rel => exact ⟨r + 1, by omega, by go_num, HS2.out⟩
          case measure => simp [intOf]; omega
        · obtain rfl : r = m := by omega
          have d1 := hs.row (q * 2) (by omega)
          have d2 := hs.row (q * 2 + 1) (by omega)
          obtain ⟨⟨x1, y1⟩, z1⟩ := d1
          obtain ⟨⟨x2, y2⟩, z2⟩ := d2
          have HS2 := Lib.hid (hs.done (u := .slice none 0 0) (v := .int .i64 (-9)) HG.out)
          clear hs d0
          go_wp2
          go_roundw
          case rel => exact ⟨q + 1, by omega, by go_num, HS2.out⟩
          case measure => simp [intOf]; omega
    · obtain rfl : q = n := by omega
      have HF := Lib.hid hs.frm
      clear hs
      go_wp2
      exact bodyPost_ret (v := .tuple #[]) (by simp [results, Try.results19, go_sem]) rfl (HP.out _ HF.out)

/-- what came back from Entries may be spoiled -/
theorem EnS.spl {W w : World} {base : Nat} {g cap n : Nat} {L : List Ev} {es : List Ent} (h : EnS W w base (.slice (some ⟨g, 0, none⟩) n cap) L es) : Spl w (fun k => base ≤ k) g n (fun i => ((L[i]?).map (·.1)).getD (.bool false)) (fun i => ((es[i]?).map (·.1.length)).getD 0) ∧ n = es.length := by
  obtain ⟨g', cap', e, h1, h2, h3, h4⟩ := h.own.form
  injection e with e1 e2 e3
  injection e1 with e1
  injection e1 with e1
  subst e1 e2
  have hap := h.own
  have hcur : ∀ i, i < L.length * 2 → ∃ x, w.cell? ⟨g, i, none⟩ = some x := by
    intro i hi
    have hp : L[i / 2]? = some (L[i / 2]'(by omega)) := List.getElem?_eq_getElem _
    obtain ⟨q1, q2⟩ := h4 _ _ hp
    rcases Nat.mod_two_eq_zero_or_one i with q | q
    · rw [show i / 2 * 2 = i by omega] at q1; exact ⟨_, q1⟩
    · rw [show i / 2 * 2 + 1 = i by omega] at q2; exact ⟨_, q2⟩
  refine ⟨⟨h1, fun i hi => ⟨hcur i hi, h3 i⟩, fun i hi => ?_, fun i hi => ?_⟩, h.len⟩
  · have hp : L[i]? = some (L[i]'hi) := List.getElem?_eq_getElem _
    rw [hp]
    exact (h4 i _ hp).1
  · have hp : L[i]? = some (L[i]'hi) := List.getElem?_eq_getElem _
    have he : es[i]? = some (es[i]'(by rw [← h.len]; exact hi)) := List.getElem?_eq_getElem _
    obtain ⟨q1, q2, q3⟩ := h.keys i _ _ hp he
    have hne := apartK hap q2
    obtain ⟨gk, ck, ek, b1, b2, b3, b4, b5⟩ := q1
    rw [hp, he]
    refine ⟨some ⟨gk, 0, none⟩, ck, ek, .inr ⟨gk, rfl, fun e => hne gk (by rw [ek]; rfl) (by rw [e]; rfl), b1, fun j hj => ?_⟩⟩
    have hx : (es[i]'(by rw [← h.len]; exact hi)).1[j]? = some ((es[i]'(by rw [← h.len]; exact hi)).1[j]'hj) := List.getElem?_eq_getElem _
    exact ⟨⟨_, b3 j _ hx⟩, b4 j hj⟩
/-- a list of one entry that has just been laid may be spoiled -/
theorem spl_one {w : World} {base : Nat} {v : Value} {k : List Nat} {n : Int} (h : OwK w base v k) (hb : base ≤ w.heap.size) : Spl (w.alloc (.cells #[v, .int .i64 n] 42)) (fun g => base ≤ g) w.heap.size 1 (fun _ => v) (fun _ => k.length) := by
  have h2 := h.below ((Below.refl w.heap.size w).alloc (Nat.le_refl _) (.cells #[v, .int .i64 n] 42))
  obtain ⟨g, c, rfl, b1, b2, -⟩ := h
  obtain ⟨g', c', e, b1', b2', b3, b4, b5⟩ := h2
  injection e with e1 e2 e3
  injection e1 with e1
  injection e1 with e1
  subst e1 e3
  have x0 : (w.alloc (.cells #[.slice (some ⟨g, 0, none⟩) k.length c, .int .i64 n] 42)).cell? ⟨w.heap.size, 0, none⟩ = some (.slice (some ⟨g, 0, none⟩) k.length c) := by rw [cell_of_block (heap_alloc_new w _)]; rfl
  have x1 : (w.alloc (.cells #[.slice (some ⟨g, 0, none⟩) k.length c, .int .i64 n] 42)).cell? ⟨w.heap.size, 1, none⟩ = some (.int .i64 n) := by rw [cell_of_block (heap_alloc_new w _)]; rfl
  refine ⟨hb, fun i hi => ⟨?_, unfrozen_of_block (heap_alloc_new w _) i⟩, fun i hi => ?_, fun i hi => ⟨some ⟨g, 0, none⟩, c, rfl, .inr ⟨g, rfl, by omega, b1, fun j hj => ?_⟩⟩⟩
  · rcases (show i = 0 ∨ i = 1 by omega) with rfl | rfl
    · exact ⟨_, x0⟩
    · exact ⟨_, x1⟩
  · obtain rfl : i = 0 := by omega
    exact x0
  · exact ⟨⟨_, b3 j _ (List.getElem?_eq_getElem hj)⟩, b4 j hj⟩
theorem spl_nil {w : World} {base : Nat} {n : Int} (hb : base ≤ w.heap.size) : Spl (w.alloc (.cells #[.slice none 0 0, .int .i64 n] 42)) (fun g => base ≤ g) w.heap.size 1 (fun _ => .slice none 0 0) (fun _ => 0) := by
  have x0 : (w.alloc (.cells #[.slice none 0 0, .int .i64 n] 42)).cell? ⟨w.heap.size, 0, none⟩ = some (.slice none 0 0) := by rw [cell_of_block (heap_alloc_new w _)]; rfl
  have x1 : (w.alloc (.cells #[.slice none 0 0, .int .i64 n] 42)).cell? ⟨w.heap.size, 1, none⟩ = some (.int .i64 n) := by rw [cell_of_block (heap_alloc_new w _)]; rfl
  refine ⟨hb, fun i hi => ⟨?_, unfrozen_of_block (heap_alloc_new w _) i⟩, fun i hi => ?_, fun i hi => ⟨none, 0, rfl, .inl rfl⟩⟩
  · rcases (show i = 0 ∨ i = 1 by omega) with rfl | rfl
    · exact ⟨_, x0⟩
    · exact ⟨_, x1⟩
  · obtain rfl : i = 0 := by omega
    exact x0

theorem copy_new {w : World} {R : Bl} {u : Value} {k : List Nat} (h : KeyAt w R u k) (hl : k.length ≤ 17592186044416) : Calls Try.prog 11 #[u] w fun e w' => ∃ g c, e = .returned (.slice (some ⟨g, 0, none⟩) k.length c) ∧ OwB w' w.heap.size (.slice (some ⟨g, 0, none⟩) k.length c) k ∧ KeyAt w' (fun q => q = g) (.slice (some ⟨g, 0, none⟩) k.length c) k ∧ w.heap.size ≤ g ∧ g < w'.heap.size ∧ Below w.heap.size w w' := by
  have hlt := h.lt
  obtain ⟨a, b, off, cap, rfl, h1, h2⟩ := h
  refine (refcopy_any a b off cap k hl w (h1.imp_right fun h => h.1) h2).mono ?_
  rintro e w' ⟨v, rfl, h3, h4⟩
  obtain ⟨g, c, rfl, -⟩ := h3.isB hlt
  exact ⟨g, c, rfl, h3, h3.keyAt hlt (fun q hq => by simp [Value.ownBlock] at hq; exact hq.symm), (h3.1.lt g rfl).1, (h3.1.lt g rfl).2, h4⟩
theorem box_put2 {w : World} {be : Nat} {a b c d : Value} {ty : TypeId} (h : w.heap[be]? = some (.cells #[a, b] ty (0, 0))) : ((w.setCell ⟨be, 0, none⟩ c).setCell ⟨be, 1, none⟩ d).heap[be]? = some (.cells #[c, d] ty (0, 0)) ∧ Frm (fun k => k = be) w ((w.setCell ⟨be, 0, none⟩ c).setCell ⟨be, 1, none⟩ d) := by
  have h2 : (w.setCell ⟨be, 0, none⟩ c).heap[be]? = some (.cells #[c, b] ty (0, 0)) := by rw [setCell_eq_setRow _ be 0 #[a, b] _ _ c h, setRow_heap _ be _ _ _ _ h]; rfl
  refine ⟨by rw [setCell_eq_setRow _ be 1 #[c, b] _ _ d h2, setRow_heap _ be _ _ _ _ h2]; rfl, ((Frm.set1 (F := fun k => k = be) w rfl 0 c)).setCell (.inl rfl) 1 d⟩

set_option maxHeartbeats 4000000 in
/-- where the document's cursor stands -/
theorem seek_any {W w : World} {t : Nat} {es fx : List Ent} {fv : Value} (h : BS W w t es fv fx) (hn : fx.length ≤ 134217728) (hk9 : ∀ e ∈ fx, e.1.length ≤ 1048576) {R : Bl} {u : Value} {k : List Nat} (hu : KeyAt w R u k) (hm : k.length ≤ 2097152) :
    Calls Try.prog 10 #[fv, u] w fun e w' => Below w.heap.size w w' ∧ ((∃ k' v, seekSt fx k = some k' ∧ e = .returned (.agg #[v, .bool false]) ∧ KeyAt w' (fun g => w.heap.size ≤ g ∧ g < w'.heap.size) v k') ∨ (seekSt fx k = none ∧ e = .returned (.agg #[.slice none 0 0, .bool true]))) := by
  generalize hP : (fun (e : Ending) (w' : World) => Below w.heap.size w w' ∧ ((∃ k' v, seekSt fx k = some k' ∧ e = .returned (.agg #[v, .bool false]) ∧ KeyAt w' (fun g => w.heap.size ≤ g ∧ g < w'.heap.size) v k') ∨ (seekSt fx k = none ∧ e = .returned (.agg #[.slice none 0 0, .bool true])))) = P
  have HP := Lib.hid hP
  obtain ⟨z, hz⟩ : ∃ z, w.heap.size = z := ⟨_, rfl⟩
  obtain ⟨w1, hw1⟩ : ∃ w1, w.alloc (.cells #[.slice none 0 0, .bool false] 31) = w1 := ⟨_, rfl⟩
  have hb : Below w.heap.size w w1 := by rw [← hw1]; exact (Below.refl _ _).alloc (Nat.le_refl _) _
  have hx : w1.heap[z]? = some (.cells #[.slice none 0 0, .bool false] 31 (0, 0)) := by rw [← hw1, ← hz]; exact heap_alloc_new _ _
  have hbs := h.below hb
  have HPL := Lib.hid (bs_place hbs (by unfold maxLen; omega) (fun e he => by have := hk9 e he; unfold maxLen; omega) (hu.step (Frm.of_below (F := fun _ => False) hb) (fun _ _ h => h)) (by unfold maxLen; omega))
  obtain ⟨a, b, off, cap, rfl, -⟩ := hu
  obtain ⟨gf, capf, mf, rfl, -⟩ := hbs.at
  have HBS := Lib.hid hbs
  have HB := Lib.hid hb
  have HX := Lib.hid hx
  have HK9 := Lib.hid hk9
  obtain ⟨i, hi⟩ : ∃ i, (ePl fx k).1 = i := ⟨_, rfl⟩
  have hle := (ePl_le fx k).1
  rw [hi] at HPL hle
  have HI := Lib.hid hi
  obtain ⟨n, en⟩ : ∃ n, fx.length = n := ⟨_, rfl⟩
  have EN := Lib.hid en
  rw [en] at HPL hn hle ⊢
  have hs : seekSt fx k = (fx[i]?).map (·.1) := by unfold seekSt; rw [hi]
  have HSK := Lib.hid hs
  clear h hb hx hbs hP hk9 hi hs en
  go_enter Try.func10, Try.ntmps10
  go_wp2_with fail
  refine HPL.out.mono ?_
  rintro e w2 ⟨rfl, b2⟩
  have HB2 := Lib.hid (stepB HB.out b2)
  have hx2 := (b2.block _ (Array.getElem?_eq_some_iff.1 HX.out).1).trans HX.out
  have x0 : w2.cell? ⟨z, 0, none⟩ = some (.slice none 0 0) := by rw [cell_of_block hx2]; rfl
  have x1 : w2.cell? ⟨z, 1, none⟩ = some (.bool false) := by rw [cell_of_block hx2]; rfl
  have f0 := unfrozen_of_block hx2 0
  have f1 := unfrozen_of_block hx2 1
  have ltz : z < w2.heap.size := (Array.getElem?_eq_some_iff.1 hx2).1
  have HBS2 := Lib.hid (HBS.out.below b2)
  clear b2
  by_cases c : i = n
  · subst c
    have t1 : ((i : Int) == (i : Int)) = true := by simp
    have hno : seekSt fx k = none := by rw [HSK.out, List.getElem?_eq_none (by rw [EN.out]; exact Nat.le_refl _)]; rfl
    clear hw1
    go_wp2
    obtain ⟨p1, p2⟩ := box_put2 (c := .slice none 0 0) (d := .bool true) hx2
    have r0 := cell_of_block p1 0
    have r1 := cell_of_block p1 1
    refine bodyPost_ret (v := .agg #[.slice none 0 0, .bool true]) (by simp [results, Try.results10, go_sem, r0, r1]) rfl ?_
    rw [← HP.out]
    exact ⟨HB2.out.trans (p2.below (fun k hk => by subst hk; omega) HB2.out.size), .inr ⟨hno, rfl⟩⟩
  · have t1 : ((i : Int) == (n : Int)) = false := by simp; omega
    have hin : i < n := by omega
    have hini : (i : Int) < (n : Int) := by omega
    have hyx : fx[i]? = some (fx[i]'(by rw [EN.out]; exact hin)) := List.getElem?_eq_getElem _
    generalize fx[i]'(by rw [EN.out]; exact hin) = y at *
    have hsk : seekSt fx k = some y.1 := by rw [HSK.out, hyx]; rfl
    obtain ⟨g2, c2, m2, e2, hr2⟩ := HBS2.out.at
    injection e2 with e2 el2 e3
    clear el2
    injection e2 with e2
    injection e2 with e2
    subst e2
    obtain ⟨d0, d1, hky⟩ := hr2.at_ i y hyx
    have ltg := hr2.lt
    have hyl : y.1.length ≤ 1048576 := HK9.out y (List.mem_of_getElem? hyx)
    have HCP := Lib.hid (copy_new hky (by omega))
    obtain ⟨ay, by_, oy, cy, ey, -⟩ := hky
    rw [ey] at d0 HCP
    have HX2 := Lib.hid hx2
    clear hw1 d1 e3 hr2 x0 x1 f0 f1 ltz hx2
    go_wp2_with fail
    refine HCP.out.mono ?_
    rintro e w3 ⟨g3, c3, rfl, -, hk3, hg3, hg4, b3⟩
    have hx3 := (b3.block _ (Array.getElem?_eq_some_iff.1 HX2.out).1).trans HX2.out
    have hz3 : z < w2.heap.size := (Array.getElem?_eq_some_iff.1 HX2.out).1
    have x0 : w3.cell? ⟨z, 0, none⟩ = some (.slice none 0 0) := by rw [cell_of_block hx3]; rfl
    have x1 : w3.cell? ⟨z, 1, none⟩ = some (.bool false) := by rw [cell_of_block hx3]; rfl
    have f0 := unfrozen_of_block hx3 0
    have f1 := unfrozen_of_block hx3 1
    have ltz : z < w3.heap.size := (Array.getElem?_eq_some_iff.1 hx3).1
    have HB3 := Lib.hid (stepB HB2.out b3)
    have HK3 := Lib.hid hk3
    have HG := Lib.hid (And.intro hg3 hg4)
    have HZ2 := Lib.hid hz3
    clear b3 hk3 hg3 hg4 hz3
    go_wp2
    obtain ⟨p1, p2⟩ := box_put2 (c := .slice (some ⟨g3, 0, none⟩) y.1.length c3) (d := .bool false) hx3
    have r0 := cell_of_block p1 0
    have r1 := cell_of_block p1 1
    refine bodyPost_ret (v := .agg #[.slice (some ⟨g3, 0, none⟩) y.1.length c3, .bool false]) (by simp [results, Try.results10, go_sem, r0, r1]) rfl ?_
    rw [← HP.out]
    have hgz := HG.out
    have hz4 := HZ2.out
    have hsz := HB2.out.size
    refine ⟨HB3.out.trans (p2.below (fun k hk => by subst hk; omega) HB3.out.size), .inl ⟨y.1, _, hsk, rfl, ?_⟩⟩
    refine (HK3.out.step p2 (fun q hq e => ?_)).mono (fun q hq => ?_)
    · subst hq; omega
    · subst hq
      exact ⟨by omega, Nat.lt_of_lt_of_le hgz.2 p2.size⟩

theorem seek_any2 {W w : World} {t : Nat} {es fx : List Ent} {fv : Value} (h : BS W w t es fv fx) (hn : fx.length ≤ 134217728) (hk9 : ∀ e ∈ fx, e.1.length ≤ 1048576) {R : Bl} {u : Value} {k : List Nat} (hu : KeyAt w R u k) (hm : k.length ≤ 2097152) :
    Calls Try.prog 10 #[fv, u] w fun e w' => ∃ a m cp en k', e = .returned (.agg #[.slice a m cp, .bool en]) ∧ Below w.heap.size w w' ∧ KeyAt w' (fun g => w.heap.size ≤ g ∧ g < w'.heap.size) (.slice a m cp) k' ∧ ((seekSt fx k = some k' ∧ en = false) ∨ (seekSt fx k = none ∧ en = true)) ∧ k'.length ≤ 1048576 := by
  refine (seek_any h hn hk9 hu hm).mono ?_
  rintro e w' ⟨hb, ⟨k', v, hs, rfl, hk⟩ | ⟨hs, rfl⟩⟩
  · have hmem : ∃ n, (k', n) ∈ fx := by
      unfold seekSt at hs
      cases hx : fx[(ePl fx k).1]? with
      | none => rw [hx] at hs; cases hs
      | some x =>
        rw [hx] at hs
        refine ⟨x.2, ?_⟩
        have : x.1 = k' := by simpa using hs
        rw [← this]
        exact List.mem_of_getElem? hx
    obtain ⟨n, hmm⟩ := hmem
    have hkl := hk9 _ hmm
    obtain ⟨a, b, off, cap, rfl, h1⟩ := hk
    exact ⟨a, _, cap, false, k', rfl, hb, ⟨a, b, off, cap, rfl, h1⟩, .inl ⟨hs, rfl⟩, hkl⟩
  · obtain ⟨a, b, off, cap, e, -, e2⟩ := key_nil w'
    exact ⟨none, 0, 0, true, [], rfl, hb, ⟨a, b, off, cap, e, .inl rfl, e2⟩, .inr ⟨hs, rfl⟩, by simp⟩
theorem Tc.trx {W w : World} {t : Nat} {es : List Ent} {K : Bl} (h : Tc W w t es K) : ∃ F, TrX W.heap.size w F t es ∧ ∀ k, F k → k < w.heap.size := by
  obtain ⟨F, h1, -⟩ := h
  exact ⟨F, h1, fun k hk => (h1.low k hk).2⟩
set_option maxHeartbeats 4000000 in
set_option maxRecDepth 100000 in
/-- does the tree tell just these entries? yes -/
theorem shown_any {W w : World} {t : Nat} {es : List Ent} {fv : Value} (h : BS W w t es fv es) (hn : es.length ≤ 134217728) (hk9 : ∀ e ∈ es, e.1.length ≤ 1048576) {R : Bl} {u : Value} {k : List Nat} (hu : KeyAt w R u k) (hm : k.length ≤ 2097152) :
    Calls Try.prog 21 #[.pointer (some ⟨t, 0, none⟩), fv, u] w fun e w' => e = .returned (.bool true) ∧ Below w.heap.size w w' := by
  generalize hP : (fun (e : Ending) (w' : World) => e = .returned (.bool true) ∧ Below w.heap.size w w') = P
  have HP := Lib.hid (show ∀ w', Below w.heap.size w w' → P (.returned (.bool true)) w' from fun w' h => by rw [← hP]; exact ⟨rfl, h⟩)
  have HU := Lib.hid (show ∀ wx, Below w.heap.size w wx → KeyAt wx R u k from fun wx hb => hu.step (Frm.of_below (F := fun _ => False) hb) (fun _ _ h => h))
  have HH := Lib.hid (show ∀ wx, Below w.heap.size w wx → BS W wx t es fv es from fun wx hb => h.below hb)
  have HK9 := Lib.hid (show ∀ e ∈ es, e.1.length ≤ maxLen from fun e he => by have := hk9 e he; unfold maxLen; omega)
  obtain ⟨a, b, off, cap, rfl, -⟩ := hu
  obtain ⟨gf, capf, mf, rfl, -⟩ := h.at
  obtain ⟨R0, L0, hT, -⟩ := h
  have HE := Lib.hid (tc_ents hT (by omega))
  have HK8 := Lib.hid hk9
  clear hT hP hk9
  obtain ⟨n, en⟩ : ∃ n, es.length = n := ⟨_, rfl⟩
  have EN := Lib.hid en
  rw [en] at hn HH ⊢
  clear en
  go_enter Try.func21, Try.ntmps21
  go_wp2_with fail
  refine HE.out.mono ?_
  rintro x w1 ⟨v1, L1, rfl, h1⟩
  obtain ⟨g1, cap1, rfl, -⟩ := h1.own.form
  have HE1 := Lib.hid h1
  have HB1 := Lib.hid h1.bel
  obtain ⟨R1, M1, hT1, -⟩ := HH.out w1 h1.bel
  obtain ⟨F1, hX1, -⟩ := hT1.trx
  have HGT := Lib.hid (tget_any _ w1 F1 t es hX1 R _ k (HU.out w1 h1.bel))
  clear h1 hT1 hX1 HE
  go_wp2_with fail
  refine HGT.out.mono ?_
  rintro x w2 ⟨b2, hres⟩
  have HB2 := Lib.hid (stepB HB1.out b2)
  have HE2 := Lib.hid (HE1.out.step b2)
  have HPL := Lib.hid (bs_place (HH.out w2 HB2.out) (by rw [EN.out]; unfold maxLen; omega) HK9.out (HU.out w2 HB2.out) (by unfold maxLen; omega))
  clear b2 HGT HE1
  obtain ⟨i, hi⟩ : ∃ i, (ePl es k).1 = i := ⟨_, rfl⟩
  rw [hi] at HPL hres
  have HRES := Lib.hid hres
  clear hres hi
  obtain ⟨id, ok, hid, hpl, hitem⟩ : ∃ (id : Int) (ok : Bool), x = .returned (.tuple #[.int .i64 id, .bool ok]) ∧ (ePl es k).2 = ok ∧ ((ok = true ∧ es[i]? = some (k, id)) ∨ (ok = false ∧ id = 0)) := by
    rcases HRES.out with ⟨q1, n1, q2, q3⟩ | ⟨q1, q2⟩
    · exact ⟨n1, true, q3, q1, .inl ⟨rfl, q2⟩⟩
    · exact ⟨0, false, q2, q1, .inr ⟨rfl, rfl⟩⟩
  subst hid
  rw [hpl] at HPL
  have HIT := Lib.hid hitem
  clear HRES hpl hitem
  go_wp2_with fail
  refine HPL.out.mono ?_
  rintro x w3 ⟨rfl, b3⟩
  have HB3 := Lib.hid (stepB HB2.out b3)
  have HE3 := Lib.hid (HE2.out.step b3)
  obtain ⟨R3, M3, hT3, hM3⟩ := HH.out w3 HB3.out
  have HSM := Lib.hid (refsame_any _ _ w3 _ _ _ _ L1 M3 es es HE3.out.mex hM3 (by rw [EN.out]; unfold maxLen; omega) (by rw [EN.out]; unfold maxLen; omega))
  rw [show decide (es = es) = true by simp] at HSM
  have hl3 := HE3.out.len
  rw [EN.out] at hl3
  rw [hl3] at HSM HE3 ⊢
  clear b3 HPL HE2 hT3 hM3
  go_wp2_with fail
  refine HSM.out.mono ?_
  rintro x w4 ⟨rfl, b4⟩
  have HB4 := Lib.hid (stepB HB3.out b4)
  have HE4 := Lib.hid (HE3.out.step b4)
  obtain ⟨R4, M4, hT4, -⟩ := HH.out w4 HB4.out
  have HLN := Lib.hid (tc_len hT4)
  rw [EN.out] at HLN
  clear b4 HSM HE3 hT4
  go_wp2_with fail
  refine HLN.out.mono ?_
  rintro x w' ⟨rfl, rfl⟩
  have t1 : ((n : Int) != (n : Int)) = false := by simp
  have t2 : (ok != ok) = false := by simp
  obtain ⟨hspl, hsl⟩ := HE4.out.spl
  have HSP := Lib.hid (spoil_any w4 _ g1 n cap1 _ _ hspl (by omega) (fun j hj => by
    have he : es[j]? = some (es[j]'(by rw [EN.out]; exact hj)) := List.getElem?_eq_getElem _
    rw [he]
    have := HK8.out _ (List.mem_of_getElem? he)
    show (es[j]'(by rw [EN.out]; exact hj)).1.length ≤ 4294967296
    omega))
  obtain ⟨g4, c4, m4, e4, hr4⟩ := (HH.out w4 HB4.out).at
  injection e4 with e4 el4 ec4
  clear el4 ec4
  injection e4 with e4
  injection e4 with e4
  subst e4
  clear hspl hsl HLN
  rcases HIT.out with ⟨rfl, hit⟩ | ⟨rfl, rfl⟩
  focus
    have hin : i < n := by rw [← EN.out]; exact (List.getElem?_eq_some_iff.1 hit).1
    have hini : (i : Int) < (n : Int) := by omega
    have d1 := (hr4.at_ i _ hit).2.1
    have ltg := hr4.lt
    have t3 : (id != id) = false := by simp
    clear hit hr4
    go_upto_region 6 with fail
  rotate_right
  focus
    clear hr4
    go_upto_region 6 with fail
  all_goals
    go_wp2_with fail
    refine HSP.out.mono ?_
    rintro x w5 ⟨rfl, h5⟩
    have HB5 := Lib.hid (HB4.out.trans (h5.below (fun k hk => hk) HB4.out.size))
    obtain ⟨R5, M5, hT5, -⟩ := HH.out w5 HB5.out
    have HSH := Lib.hid (tc_shape hT5 (by rw [EN.out]; exact hn))
    rw [EN.out] at HSH
    clear h5 hT5
    go_wp2_with fail
    refine HSH.out.mono ?_
    rintro x w6 ⟨g6, c6, sh, rfl, hs6, hn6, b6⟩
    have HB6 := Lib.hid (stepB HB5.out b6)
    have HSO := Lib.hid (refsound_any g6 0 c6 sh _ w6 hs6 hn6)
    clear hs6 hn6 b6 HSH
    go_wp2_with fail
    refine HSO.out.mono ?_
    rintro x w7 ⟨rfl, rfl⟩
    go_wp2
    exact HP.out _ HB6.out

theorem sameentry_none' (a : Option Addr) (c ml : Nat) (id : Int) (v : Value) (at0 : Int) (w : World) (h1 : ml = 0) (h2 : id = 0) :
    Calls Try.prog 18 #[.agg #[.slice a ml c, .int .i64 id], .bool false, v, .int .i64 at0, .bool false] w fun e w' => e = .returned (.bool true) ∧ Below w.heap.size w w' := by
  subst h1 h2
  exact sameentry_none a c v at0 w

set_option maxHeartbeats 4000000 in
/-- does the cursor stand where the document's does? yes -/
theorem stood_any {W w : World} {t c : Nat} {es : List Ent} {fv : Value} {st : Option (List Nat)} (h : BS W w t es fv es) (hn : es.length ≤ 134217728) (hk9 : ∀ e ∈ es, e.1.length ≤ 1048576) (hc : CurAt w c t st)
    {R : Bl} {kv : Value} {en : Bool} {k : List Nat} (hu : KeyAt w R kv k) (hm : k.length ≤ 2097152) (hat : (st = some k ∧ en = false) ∨ (st = none ∧ en = true)) :
    Calls Try.prog 22 #[.pointer (some ⟨c, 0, none⟩), .agg #[kv, .bool en], fv] w fun e w' => e = .returned (.bool true) ∧ Below w.heap.size w w' := by
  generalize hP : (fun (e : Ending) (w' : World) => e = .returned (.bool true) ∧ Below w.heap.size w w') = P
  have HP := Lib.hid (show ∀ w', Below w.heap.size w w' → P (.returned (.bool true)) w' from fun w' h => by rw [← hP]; exact ⟨rfl, h⟩)
  obtain ⟨a, b, off, cap, rfl, -⟩ := _root_.id hu
  obtain ⟨gf, capf, mf, rfl, -⟩ := h.at
  obtain ⟨z, hz⟩ : ∃ z, w.heap.size = z := ⟨_, rfl⟩
  obtain ⟨w1, hw1⟩ : ∃ w1, w.alloc (.cells #[.slice a k.length cap, .bool en] 31) = w1 := ⟨_, rfl⟩
  have hb : Below w.heap.size w w1 := by rw [← hw1]; exact (Below.refl _ _).alloc (Nat.le_refl _) _
  have hx : w1.heap[z]? = some (.cells #[.slice a k.length cap, .bool en] 31 (0, 0)) := by rw [← hw1, ← hz]; exact heap_alloc_new _ _
  have HU := Lib.hid (show ∀ wx, Below w.heap.size w wx → KeyAt wx R (.slice a k.length cap) k from fun wx hb => hu.step (Frm.of_below (F := fun _ => False) hb) (fun _ _ h => h))
  have HH := Lib.hid (show ∀ wx, Below w.heap.size w wx → BS W wx t es (.slice (some ⟨gf, 0, none⟩) es.length capf) es from fun wx hb => h.below hb)
  have HK9 := Lib.hid (show ∀ e ∈ es, e.1.length ≤ maxLen from fun e he => by have := hk9 e he; unfold maxLen; omega)
  have HK8 := Lib.hid hk9
  have HB := Lib.hid hb
  have HX := Lib.hid hx
  have HAT := Lib.hid hat
  obtain ⟨R1, M1, hT1, -⟩ := h.below hb
  obtain ⟨F1, hX1, -⟩ := hT1.trx
  have HEN := Lib.hid (centry_any _ w1 F1 t es hX1 c st (hc.step (Frm.of_below (F := fun _ => False) hb) (fun h => h)))
  obtain ⟨n, en9⟩ : ∃ n, es.length = n := ⟨_, rfl⟩
  have EN := Lib.hid en9
  rw [en9] at hn HH ⊢
  clear h hb hx hT1 hX1 hP hk9 hat hc hu en9
  go_enter Try.func22, Try.ntmps22
  go_wp2_with fail
  refine HEN.out.mono ?_
  rintro x w2 ⟨b2, hres⟩
  have HB2 := Lib.hid (stepB HB.out b2)
  obtain ⟨v, k2, id, ok, hxx, how, hcase⟩ : ∃ (v : Value) (k2 : List Nat) (id : Int) (ok : Bool), x = .returned (.tuple #[.agg #[v, .int .i64 id], .bool ok]) ∧ (v = .slice none 0 0 ∧ k2 = [] ∨ OwK w2 w1.heap.size v k2) ∧ ((ok = true ∧ v ≠ .slice none 0 0 ∧ k2 = k ∧ en = false ∧ (ePl es k).2 = true ∧ es[(ePl es k).1]? = some (k, id)) ∨ (ok = false ∧ v = .slice none 0 0 ∧ id = 0 ∧ ((ePl es k).2 = false ∨ en = true))) := by
    rcases hres with ⟨k1, n1, v1, q0, q1, q2, q3, q4⟩ | ⟨q1, q2⟩
    · rcases HAT.out with ⟨g1, g2⟩ | ⟨g1, g2⟩
      · rw [q0] at g1
        cases g1
        exact ⟨v1, k, n1, true, q4, .inr q3, .inl ⟨rfl, by obtain ⟨g, c, e, -⟩ := q3; rw [e]; simp, rfl, g2, q1, q2⟩⟩
      · rw [q0] at g1; cases g1
    · refine ⟨_, [], _, false, q2, .inl ⟨rfl, rfl⟩, .inr ⟨rfl, rfl, rfl, ?_⟩⟩
      rcases HAT.out with ⟨g1, g2⟩ | ⟨g1, g2⟩
      · exact .inl (q1 k g1)
      · exact .inr g2
  subst hxx
  obtain ⟨av, cv, hv⟩ : ∃ av cv, v = .slice av k2.length cv := by
    rcases how with ⟨e1, e2⟩ | ⟨g, c, e, -⟩
    · exact ⟨none, 0, by rw [e1, e2]; rfl⟩
    · exact ⟨_, _, e⟩
  subst hv
  obtain ⟨ml, hml⟩ : ∃ m, k2.length = m := ⟨_, rfl⟩
  rw [hml] at how hcase ⊢
  have HML := Lib.hid hml
  have hml2 : ml ≤ 2097152 := by
    rcases hcase with ⟨-, -, e, -⟩ | ⟨-, e, -⟩
    · rw [← hml, e]; exact hm
    · injection e with _ e _; omega
  have HML2 := Lib.hid hml2
  clear hml hml2
  have HOW := Lib.hid how
  have HCS := Lib.hid hcase
  obtain ⟨z2, hz2⟩ : ∃ z, w2.heap.size = z := ⟨_, rfl⟩
  obtain ⟨w3, hw3⟩ : ∃ w3, w2.alloc (.cells #[.slice av ml cv, .int .i64 id] 42) = w3 := ⟨_, rfl⟩
  have hb3 : Below w2.heap.size w2 w3 := by rw [← hw3]; exact (Below.refl _ _).alloc (Nat.le_refl _) _
  have hx3 : w3.heap[z2]? = some (.cells #[.slice av ml cv, .int .i64 id] 42 (0, 0)) := by rw [← hw3, ← hz2]; exact heap_alloc_new _ _
  have hxz : w3.heap[z]? = some (.cells #[.slice a k.length cap, .bool en] 31 (0, 0)) := ((b2.trans (hb3.mono b2.size)).block _ (Array.getElem?_eq_some_iff.1 HX.out).1).trans HX.out
  have HB3 := Lib.hid (stepB HB2.out hb3)
  have HX3 := Lib.hid hx3
  have HXZ := Lib.hid hxz
  have x0 : w3.cell? ⟨z, 0, none⟩ = some (.slice a k.length cap) := by rw [cell_of_block hxz]; rfl
  have lz3 : z < w3.heap.size := (Array.getElem?_eq_some_iff.1 hxz).1
  have HS3 := Lib.hid hb3
  obtain ⟨i, hi⟩ : ∃ i, (ePl es k).1 = i := ⟨_, rfl⟩
  obtain ⟨pl, hpl⟩ : ∃ i, (ePl es k).2 = i := ⟨_, rfl⟩
  have HPL := Lib.hid (bs_place (HH.out w3 HB3.out) (by rw [EN.out]; unfold maxLen; omega) HK9.out (HU.out w3 HB3.out) (by unfold maxLen; omega))
  rw [hi, hpl] at HPL HCS
  clear hcase how b2 hres hb3 hx3 hxz hi hpl HEN
  go_wp2_with fail
  refine HPL.out.mono ?_
  rintro x w4 ⟨rfl, b4⟩
  have HB4 := Lib.hid (stepB HB3.out b4)
  have hx4 := (b4.block _ (Array.getElem?_eq_some_iff.1 HX3.out).1).trans HX3.out
  have hxz4 := (b4.block _ (Array.getElem?_eq_some_iff.1 HXZ.out).1).trans HXZ.out
  have y0 : w4.cell? ⟨z2, 0, none⟩ = some (.slice av ml cv) := by rw [cell_of_block hx4]; rfl
  have y1 : w4.cell? ⟨z2, 1, none⟩ = some (.int .i64 id) := by rw [cell_of_block hx4]; rfl
  have y2 : w4.cell? ⟨z, 1, none⟩ = some (.bool en) := by rw [cell_of_block hxz4]; rfl
  have lz4 : z < w4.heap.size := (Array.getElem?_eq_some_iff.1 hxz4).1
  have lz24 : z2 < w4.heap.size := (Array.getElem?_eq_some_iff.1 hx4).1
  have HX4 := Lib.hid hx4
  obtain ⟨R4, M4, -, hM4⟩ := HH.out w4 HB4.out
  have HM4 := Lib.hid hM4
  have HOW4 := Lib.hid (HOW.out.imp_right fun h => (h.below HS3.out).below b4)
  clear b4 hx4 hxz4 hM4 x0 lz3 HPL hw3
  rcases HCS.out with ⟨rfl, hv0, rfl, rfl, rfl, hit⟩ | ⟨rfl, hv0, hid0, hno⟩
  focus
    have HSE := Lib.hid (sameentry_some _ w4 R4 (fun g => w.heap.size ≤ g) _ _ M4 es _ id i HM4.out (by rw [EN.out]; unfold maxLen; omega) hit (by
      rcases HOW4.out with ⟨h, -⟩ | h
      · exact absurd h hv0
      · obtain ⟨gg, cc, e, q1, -⟩ := _root_.id h
        exact h.keyAt (fun g hg => by rw [e] at hg; simp [Value.ownBlock] at hg; have := HB.out.size; omega)))
    clear hit hv0
    go_wp2_with fail
    refine HSE.out.mono ?_
    rintro x w5 ⟨rfl, b5⟩
  rotate_right
  focus
    injection hv0 with e1 e2 e3
    have HSE := Lib.hid (sameentry_none' av cv ml id (.slice (some ⟨gf, 0, none⟩) n capf) i w4 e2 hid0)
    clear e2 hid0
    have hcnd : pl = false ∨ (pl = true ∧ en = true) := by
      rcases hno with h | h
      · exact .inl h
      · cases pl
        · exact .inl rfl
        · exact .inr ⟨rfl, h⟩
    clear hno e1 e3
    rcases hcnd with rfl | ⟨rfl, rfl⟩
    focus
      go_wp2_with fail
      refine HSE.out.mono ?_
      rintro x w5 ⟨rfl, b5⟩
    rotate_right
    focus
      go_wp2_with fail
      refine HSE.out.mono ?_
      rintro x w5 ⟨rfl, b5⟩
  all_goals
    have HB5 := Lib.hid (stepB HB4.out b5)
    have hx5 := (b5.block _ (Array.getElem?_eq_some_iff.1 HX4.out).1).trans HX4.out
    have HOW5 := Lib.hid (HOW4.out.imp_right fun h => h.below b5)
    have u0 := cell_of_block hx5 0
    have u1 := cell_of_block hx5 1
    have lz25 : z2 < w5.heap.size := (Array.getElem?_eq_some_iff.1 hx5).1
    have hsp : ∃ vk lk, Spl (w5.alloc (.cells #[.slice av ml cv, .int .i64 id] 42)) (fun g => w.heap.size ≤ g) w5.heap.size 1 vk lk ∧ ∀ i, i < 1 → lk i ≤ 4294967296 := by
      rcases HOW5.out with ⟨e, -⟩ | h
      · rw [e]
        exact ⟨_, _, spl_nil (n := id) HB5.out.size, fun i _ => by decide⟩
      · exact ⟨_, _, spl_one (n := id) (h.le HB.out.size) HB5.out.size, fun i _ => by have := HML.out; have := HML2.out; show k2.length ≤ 4294967296; omega⟩
    obtain ⟨vk, lk, hsp, hlk⟩ := hsp
    have HSP := Lib.hid (spoil_any _ _ w5.heap.size 1 1 vk lk hsp (by decide) hlk)
    clear hsp hlk b5 hx5
    go_wp2_with fail
    refine HSP.out.mono ?_
    rintro x w6 ⟨rfl, h6⟩
    have hal := stepB HB5.out ((Below.refl w5.heap.size w5).alloc (Nat.le_refl _) (.cells #[.slice av ml cv, .int .i64 id] 42))
    have HB6 := Lib.hid (hal.trans (h6.below (fun k hk => hk) hal.size))
    clear h6 hal
    go_wp2
    exact HP.out _ HB6.out

theorem WrK.heap {w w1 : World} {g n : Nat} (h : WrK w g n) (hh : w1.heap[g]? = w.heap[g]?) : WrK w1 g n := fun i hi => by
  rw [World.cell?_of_block (a := ⟨g, i, none⟩) hh, World.frozen?_of_block (a := ⟨g, i, none⟩) hh]
  exact h i hi
/-- the play's state: the tree (es), the document's list (fx), the cursor, where the document's stands (kv, en) -/
structure PkR (W w : World) (R K : Bl) (t c ba : Nat) (es fx : List Ent) (st : Option (List Nat)) (fv : Value) (fL : List Ev) (kv : Value) (en : Bool) (k : List Nat) : Prop where
  tree : Tc W w t es K
  rk : ∀ k, R k → K k
  rl : ∀ k, R k → W.heap.size ≤ k ∧ k < w.heap.size
  fixed : MEx W.heap.size w R fv fL fx
  cur : CurAt w c t st
  kc : K c ∧ ¬ R c ∧ W.heap.size ≤ c
  box : w.heap[ba]? = some (.cells #[kv, .bool en] 31 (0, 0))
  kb : K ba ∧ ¬ R ba ∧ W.heap.size ≤ ba ∧ ba ≠ c
  key : KeyAt w R kv k
section
variable {W w w1 : World} {R K : Bl} {t c ba : Nat} {es fx : List Ent} {st : Option (List Nat)} {fv : Value} {fL : List Ev} {kv : Value} {en : Bool} {k : List Nat}
theorem PkR.frm {es' : List Ent} (h : PkR W w R K t c ba es fx st fv fL kv en k) (ht : Tc W w1 t es' K) (hf : Frm (fun k => ¬ K k) w w1) : PkR W w1 R K t c ba es' fx st fv fL kv en k := by
  have hr : ∀ k, R k → ¬ ¬ K k := fun k hk g => g (h.rk k hk)
  exact ⟨ht, h.rk, fun k hk => ⟨(h.rl k hk).1, Nat.lt_of_lt_of_le (h.rl k hk).2 hf.size⟩, h.fixed.step hf hr, h.cur.step hf (fun g => g h.kc.1), h.kc,
    (hf.heap (Array.getElem?_eq_some_iff.1 h.box).1 (fun g => g h.kb.1)).trans h.box, h.kb, h.key.step hf hr⟩
theorem PkR.below (h : PkR W w R K t c ba es fx st fv fL kv en k) (hb : Below w.heap.size w w1) : PkR W w1 R K t c ba es fx st fv fL kv en k := h.frm (h.tree.below hb) (Frm.of_below hb)
/-- new memory joins what is only read (A) and what the tree does not touch -/
theorem PkR.more (h : PkR W w R K t c ba es fx st fv fL kv en k) (hb : Below w.heap.size w w1) (A : Bl) (hA : ∀ k, A k → w.heap.size ≤ k ∧ k < w1.heap.size) :
    PkR W w1 (fun k => R k ∨ A k) (fun k => K k ∨ (w.heap.size ≤ k ∧ k < w1.heap.size)) t c ba es fx st fv fL kv en k := by
  have h1 := h.below hb
  have hc : c < w.heap.size := h.cur.lt
  have hbe : ba < w.heap.size := (Array.getElem?_eq_some_iff.1 h.box).1
  have hs := h.tree.bel.size
  have hrl : ∀ k, R k ∨ A k → W.heap.size ≤ k ∧ k < w1.heap.size := fun k hk => by
    rcases hk with g | g
    · exact h1.rl k g
    · have := hA k g; omega
  refine ⟨h.tree.more hb (fun k hk => hk), fun k hk => hk.imp (h.rk k) (hA k), hrl, ⟨h1.fixed.own, h1.fixed.ents.mono (fun _ g => .inl g), fun k hk => .inl (h1.fixed.rv k hk), hrl⟩, h1.cur,
    ⟨.inl h.kc.1, fun g => ?_, h.kc.2.2⟩, h1.box, ⟨.inl h.kb.1, fun g => ?_, h.kb.2.2⟩, h1.key.mono (fun _ g => .inl g)⟩
  · rcases g with g | g
    · exact h.kc.2.1 g
    · have := hA c g; omega
  · rcases g with g | g
    · exact h.kb.2.1 g
    · have := hA ba g; omega
/-- the cursor moved -/
theorem PkR.moved {c' : Nat} {st' : Option (List Nat)} (h : PkR W w R K t c ba es fx st fv fL kv en k) (hc : CurAt w c' t st') (hk : K c' ∧ ¬ R c' ∧ W.heap.size ≤ c') (hb : ba ≠ c') : PkR W w R K t c' ba es fx st' fv fL kv en k :=
  ⟨h.tree, h.rk, h.rl, h.fixed, hc, hk, h.box, ⟨h.kb.1, h.kb.2.1, h.kb.2.2.1, hb⟩, h.key⟩
/-- one block of the law's own was written -/
theorem PkR.wrote {g : Nat} {kv' : Value} {en' : Bool} {k' : List Nat} {st' : Option (List Nat)} (h : PkR W w R K t c ba es fx st fv fL kv en k) (hf : Frm (fun q => q = g) w w1) (hg : K g ∧ ¬ R g ∧ W.heap.size ≤ g)
    (hcur : CurAt w1 c t st') (hbx : w1.heap[ba]? = some (.cells #[kv', .bool en'] 31 (0, 0))) (hkey : KeyAt w R kv' k') : PkR W w1 R K t c ba es fx st' fv fL kv' en' k' := by
  have hr : ∀ k, R k → ¬ k = g := fun k hk e => hg.2.1 (e ▸ hk)
  exact ⟨h.tree.write hf (fun k hk => by subst hk; exact ⟨hg.1, hg.2.2⟩), h.rk, fun k hk => ⟨(h.rl k hk).1, Nat.lt_of_lt_of_le (h.rl k hk).2 hf.size⟩, h.fixed.step hf hr, hcur, h.kc, hbx, h.kb, hkey.step hf hr⟩
end
/-- the state at a round's head -/
def Pk (W w : World) (t c ba : Nat) (es : List Ent) (st : Option (List Nat)) (fv kv : Value) (en : Bool) (k : List Nat) : Prop := ∃ R K fL, PkR W w R K t c ba es es st fv fL kv en k
/-- the state in a round: the copy of the call's key lies in block gi -/
def Pi (W w : World) (t c ba gi bo : Nat) (ob : Array Value) (es fx : List Ent) (st : Option (List Nat)) (fv kv : Value) (en : Bool) (k ki : List Nat) (cp : Nat) : Prop :=
  ∃ R K fL, PkR W w R K t c ba es fx st fv fL kv en k ∧ (K gi ∧ ¬ R gi ∧ W.heap.size ≤ gi ∧ gi ≠ c ∧ gi ≠ ba) ∧ KeyAt w (fun q => q = gi) (.slice (some ⟨gi, 0, none⟩) ki.length cp) ki ∧ WrK w gi ki.length ∧ (K bo ∧ bo ≠ gi ∧ bo ≠ c ∧ bo ≠ ba ∧ w.heap[bo]? = some (.cells ob 34 (0, 0)))
section
variable {W w w1 : World} {t c ba gi cp bo : Nat} {ob : Array Value} {es fx : List Ent} {st : Option (List Nat)} {fv kv : Value} {en : Bool} {k ki : List Nat}
theorem Pk.bel (h : Pk W w t c ba es st fv kv en k) : Below W.heap.size W w := by
  obtain ⟨R, K, fL, q⟩ := h
  exact q.tree.bel
theorem Pk.below (h : Pk W w t c ba es st fv kv en k) (hb : Below w.heap.size w w1) : Pk W w1 t c ba es st fv kv en k := by
  obtain ⟨R, K, fL, q⟩ := h
  exact ⟨R, K, fL, q.below hb⟩
theorem Pk.bs (h : Pk W w t c ba es st fv kv en k) : BS W w t es fv es := by
  obtain ⟨R, K, fL, q⟩ := h
  exact ⟨R, fL, q.tree.mono q.rk, q.fixed⟩
theorem Pk.cur (h : Pk W w t c ba es st fv kv en k) : CurAt w c t st := by
  obtain ⟨R, K, fL, q⟩ := h
  exact q.cur
theorem Pk.box (h : Pk W w t c ba es st fv kv en k) : w.heap[ba]? = some (.cells #[kv, .bool en] 31 (0, 0)) := by
  obtain ⟨R, K, fL, q⟩ := h
  exact q.box
theorem Pk.key (h : Pk W w t c ba es st fv kv en k) : KeyAt w (fun _ => True) kv k := by
  obtain ⟨R, K, fL, q⟩ := h
  exact q.key.mono (fun _ _ => trivial)
/-- the call lies in its box, its key is copied -/
theorem pi_new {wO : World} {u : Value} {R0 : Bl} (h : Pk W w t c ba es st fv kv en k) (hwO : w.alloc (.cells ob 34) = wO) (hbo : w.heap.size = bo) (hu : KeyAt wO R0 u ki) (hl : ki.length ≤ 17592186044416) :
    Calls Try.prog 11 #[u] wO fun e w' => ∃ gi cp, e = .returned (.slice (some ⟨gi, 0, none⟩) ki.length cp) ∧ Below w.heap.size w w' ∧ Pi W w' t c ba gi bo ob es es st fv kv en k ki cp := by
  obtain ⟨R, K, fL, q⟩ := h
  have hO : Below w.heap.size w wO := by rw [← hwO]; exact (Below.refl _ _).alloc (Nat.le_refl _) _
  have hbx : wO.heap[bo]? = some (.cells ob 34 (0, 0)) := by rw [← hwO, ← hbo]; exact heap_alloc_new _ _
  have hbl := (Array.getElem?_eq_some_iff.1 hbx).1
  refine (copy_new hu hl).mono ?_
  rintro e w' ⟨g, cq, rfl, h1, h2, h3, h4, h5⟩
  have hc : c < w.heap.size := q.cur.lt
  have hbe : ba < w.heap.size := (Array.getElem?_eq_some_iff.1 q.box).1
  have hs := q.tree.bel.size
  have hs2 := hO.size
  have h6 := hO.trans (h5.mono hs2)
  refine ⟨g, cq, rfl, h6, _, _, fL, q.more h6 (fun _ => False) (fun _ h => h.elim), ⟨.inr ⟨by omega, h4⟩, fun e => ?_, by omega, by omega, by omega⟩, h2, fun i hi => ?_, ⟨.inr ⟨by omega, by omega⟩, by omega, by omega, by omega, (h5.block _ hbl).trans hbx⟩⟩
  · rcases e with e | e
    · have := (q.rl g e).2; omega
    · exact e
  · have hx : ki[i]? = some (ki[i]'hi) := List.getElem?_eq_getElem hi
    obtain ⟨a, b, off, cap, e, e1, e2⟩ := h2
    injection e with e _ _
    rcases e1 with e1 | ⟨e1, -⟩
    · omega
    · rw [e1] at e
      injection e with e
      injection e with e3 e4 _
      subst e3 e4
      have hcc := e2.c i _ hx
      rw [Nat.zero_add] at hcc
      refine ⟨⟨_, hcc⟩, ?_⟩
      rcases h1.1.2 with ⟨h0, -⟩ | ⟨g', cap', cur, h0, -, hg', -⟩
      · cases h0
      · injection h0 with h0 _ _
        injection h0 with h0
        injection h0 with h0
        subst h0
        exact unfrozen_of_block hg' i
theorem Pi.op (h : Pi W w t c ba gi bo ob es fx st fv kv en k ki cp) : w.heap[bo]? = some (.cells ob 34 (0, 0)) := by
  obtain ⟨R, K, fL, q, q1, q2, q3, q4⟩ := h
  exact q4.2.2.2.2
theorem Pi.gb (h : Pi W w t c ba gi bo ob es fx st fv kv en k ki cp) : bo ≠ gi := by
  obtain ⟨R, K, fL, q, q1, q2, q3, q4⟩ := h
  exact q4.2.1
theorem Pi.bel (h : Pi W w t c ba gi bo ob es fx st fv kv en k ki cp) : Below W.heap.size W w := by
  obtain ⟨R, K, fL, q, -⟩ := h
  exact q.tree.bel
theorem Pi.below (h : Pi W w t c ba gi bo ob es fx st fv kv en k ki cp) (hb : Below w.heap.size w w1) : Pi W w1 t c ba gi bo ob es fx st fv kv en k ki cp := by
  obtain ⟨R, K, fL, q, q1, q2, q3, q4⟩ := h
  have hltb : bo < w.heap.size := (Array.getElem?_eq_some_iff.1 q4.2.2.2.2).1
  have hlt : gi < w.heap.size := by obtain ⟨F, _, g, _⟩ := q.tree; exact (g gi q1.1).2
  exact ⟨R, K, fL, q.below hb, q1, q2.step (Frm.of_below (F := fun _ => False) hb) (fun _ _ h => h), q3.heap (hb.block _ hlt), ⟨q4.1, q4.2.1, q4.2.2.1, q4.2.2.2.1, (hb.block _ hltb).trans q4.2.2.2.2⟩⟩
theorem Pi.bs (h : Pi W w t c ba gi bo ob es fx st fv kv en k ki cp) : BS W w t es fv fx := by
  obtain ⟨R, K, fL, q, -⟩ := h
  exact ⟨R, fL, q.tree.mono q.rk, q.fixed⟩
theorem Pi.box (h : Pi W w t c ba gi bo ob es fx st fv kv en k ki cp) : w.heap[ba]? = some (.cells #[kv, .bool en] 31 (0, 0)) := by
  obtain ⟨R, K, fL, q, -⟩ := h
  exact q.box
theorem Pi.key (h : Pi W w t c ba gi bo ob es fx st fv kv en k ki cp) : KeyAt w (fun _ => True) kv k := by
  obtain ⟨R, K, fL, q, -⟩ := h
  exact q.key.mono (fun _ _ => trivial)
theorem Pi.inn (h : Pi W w t c ba gi bo ob es fx st fv kv en k ki cp) : KeyAt w (fun q => q = gi) (.slice (some ⟨gi, 0, none⟩) ki.length cp) ki ∧ WrK w gi ki.length := by
  obtain ⟨R, K, fL, q, q1, q2, q3, -⟩ := h
  exact ⟨q2, q3⟩
theorem pi_put (h : Pi W w t c ba gi bo ob es fx st fv kv en k ki cp) (hn : es.length ≤ 134217728) (id : Int) :
    Calls Try.prog 12 #[.pointer (some ⟨t, 0, none⟩), .slice (some ⟨gi, 0, none⟩) ki.length cp, .int .i64 id] w fun e w' => e = .returned (.bool (!(ePl es ki).2)) ∧ Pi W w' t c ba gi bo ob (ePut es ki id) fx st fv kv en k ki cp := by
  obtain ⟨R, K, fL, q, q1, q2, q3, q4⟩ := h
  have hltb : bo < w.heap.size := (Array.getElem?_eq_some_iff.1 q4.2.2.2.2).1
  have hlt : gi < w.heap.size := by obtain ⟨F, _, g, _⟩ := q.tree; exact (g gi q1.1).2
  refine (tk_put q.tree hn q2 id).mono ?_
  rintro e w' ⟨rfl, h3, h4⟩
  exact ⟨rfl, R, K, fL, q.frm h3 h4, q1, q2.step h4 (fun x hx g => g (by rw [hx]; exact q1.1)), q3.heap (h4.heap hlt (fun g => g q1.1)), ⟨q4.1, q4.2.1, q4.2.2.1, q4.2.2.2.1, (h4.heap hltb (fun g => g q4.1)).trans q4.2.2.2.2⟩⟩
theorem pi_drop (h : Pi W w t c ba gi bo ob es fx st fv kv en k ki cp) (hn : es.length ≤ 134217728) :
    Calls Try.prog 14 #[.pointer (some ⟨t, 0, none⟩), .slice (some ⟨gi, 0, none⟩) ki.length cp] w fun e w' => e = .returned (.bool (ePl es ki).2) ∧ Pi W w' t c ba gi bo ob (eDel es ki) fx st fv kv en k ki cp := by
  obtain ⟨R, K, fL, q, q1, q2, q3, q4⟩ := h
  have hltb : bo < w.heap.size := (Array.getElem?_eq_some_iff.1 q4.2.2.2.2).1
  have hlt : gi < w.heap.size := by obtain ⟨F, _, g, _⟩ := q.tree; exact (g gi q1.1).2
  refine (tk_drop q.tree hn q2).mono ?_
  rintro e w' ⟨rfl, h3, h4⟩
  exact ⟨rfl, R, K, fL, q.frm h3 h4, q1, q2.step h4 (fun x hx g => g (by rw [hx]; exact q1.1)), q3.heap (h4.heap hlt (fun g => g q1.1)), ⟨q4.1, q4.2.1, q4.2.2.1, q4.2.2.2.1, (h4.heap hltb (fun g => g q4.1)).trans q4.2.2.2.2⟩⟩
theorem pi_rput {u : Value} {Ru : Bl} (h : Pi W w t c ba gi bo ob es fx st fv kv en k ki cp) (hn : fx.length ≤ 4294967296) (hk9 : ∀ e ∈ fx, e.1.length ≤ maxLen) (hu : KeyAt w Ru u ki) (hm : ki.length ≤ 17592186044416) (id : Int) :
    Calls Try.prog 13 #[fv, u, .int .i64 id] w fun e w' => ∃ v', e = .returned (.tuple #[v', .bool (!(ePl fx ki).2)]) ∧ Pi W w' t c ba gi bo ob es (ePut fx ki id) st v' kv en k ki cp := by
  obtain ⟨R, K, fL, q, q1, q2, q3, q4⟩ := h
  have hltb : bo < w.heap.size := (Array.getElem?_eq_some_iff.1 q4.2.2.2.2).1
  have hlt : gi < w.heap.size := by obtain ⟨F, _, g, _⟩ := q.tree; exact (g gi q1.1).2
  obtain ⟨a, b, off, cap, rfl, h3, h4⟩ := hu
  refine (refput_any W.heap.size w q.tree.bel.size R fv fL fx q.fixed hn hk9 a b off cap ki hm (h3.imp_right fun h => h.1) h4 id).mono ?_
  rintro e w' ⟨v', R', L', rfl, g1, g2, g3⟩
  have hA : ∀ x, (R' x ∧ w.heap.size ≤ x) → w.heap.size ≤ x ∧ x < w'.heap.size := fun x hx => ⟨hx.2, (g2.rb x hx.1).2⟩
  have q' := q.more g1 (fun x => R' x ∧ w.heap.size ≤ x) hA
  have hR' : ∀ x, R' x → R x ∨ (R' x ∧ w.heap.size ≤ x) := fun x hx => (g3 x hx).imp_right fun h => ⟨hx, h⟩
  refine ⟨v', rfl, _, _, L', ⟨q'.tree, q'.rk, q'.rl, ⟨g2.own, g2.ents.mono hR', fun x hx => hR' x (g2.rv x hx), q'.rl⟩, q'.cur, q'.kc, q'.box, q'.kb, q'.key⟩, ⟨.inl q1.1, fun e => ?_, q1.2.2⟩, q2.step (Frm.of_below (F := fun _ => False) g1) (fun _ _ h => h), q3.heap (g1.block _ hlt), ⟨.inl q4.1, q4.2.1, q4.2.2.1, q4.2.2.2.1, (g1.block _ hltb).trans q4.2.2.2.2⟩⟩
  rcases e with e | e
  · exact q1.2.1 e
  · omega
theorem pi_rdrop {u : Value} {Ru : Bl} (h : Pi W w t c ba gi bo ob es fx st fv kv en k ki cp) (hn : fx.length ≤ 4294967296) (hk9 : ∀ e ∈ fx, e.1.length ≤ maxLen) (hu : KeyAt w Ru u ki) (hm : ki.length ≤ 17592186044416) :
    Calls Try.prog 15 #[fv, u] w fun e w' => ∃ v', e = .returned (.tuple #[v', .bool (ePl fx ki).2]) ∧ Pi W w' t c ba gi bo ob es (eDel fx ki) st v' kv en k ki cp := by
  obtain ⟨R, K, fL, q, q1, q2, q3, q4⟩ := h
  have hltb : bo < w.heap.size := (Array.getElem?_eq_some_iff.1 q4.2.2.2.2).1
  have hlt : gi < w.heap.size := by obtain ⟨F, _, g, _⟩ := q.tree; exact (g gi q1.1).2
  obtain ⟨a, b, off, cap, rfl, h3, h4⟩ := hu
  refine (refedrop_any W.heap.size w q.tree.bel.size R fv fL fx q.fixed hn hk9 a b off cap ki hm (h3.imp_right fun h => h.1) h4).mono ?_
  rintro e w' ⟨v', R', L', rfl, g1, g2, g3⟩
  have hA : ∀ x, (R' x ∧ w.heap.size ≤ x) → w.heap.size ≤ x ∧ x < w'.heap.size := fun x hx => ⟨hx.2, (g2.rb x hx.1).2⟩
  have q' := q.more g1 (fun x => R' x ∧ w.heap.size ≤ x) hA
  have hR' : ∀ x, R' x → R x ∨ (R' x ∧ w.heap.size ≤ x) := fun x hx => (g3 x hx).imp_right fun h => ⟨hx, h⟩
  refine ⟨v', rfl, _, _, L', ⟨q'.tree, q'.rk, q'.rl, ⟨g2.own, g2.ents.mono hR', fun x hx => hR' x (g2.rv x hx), q'.rl⟩, q'.cur, q'.kc, q'.box, q'.kb, q'.key⟩, ⟨.inl q1.1, fun e => ?_, q1.2.2⟩, q2.step (Frm.of_below (F := fun _ => False) g1) (fun _ _ h => h), q3.heap (g1.block _ hlt), ⟨.inl q4.1, q4.2.1, q4.2.2.1, q4.2.2.2.1, (g1.block _ hltb).trans q4.2.2.2.2⟩⟩
  rcases e with e | e
  · exact q1.2.1 e
  · omega
end

/-- the document's cursor stands where the tree's does -/
def AtD (st : Option (List Nat)) (en : Bool) (k : List Nat) : Prop := (st = some k ∧ en = false) ∨ (st = none ∧ en = true)
section
variable {W w w1 : World} {t c ba gi cp bo : Nat} {ob : Array Value} {es fx : List Ent} {st : Option (List Nat)} {fv kv : Value} {en : Bool} {k ki : List Nat}
theorem pk_start {wA wB wC wD : World} (h : BS W wA t [] fv []) (hB : Below wA.heap.size wA wB) (hc1 : wA.heap.size ≤ c) (hc2 : CurAt wB c t none) (hC : Below wB.heap.size wB wC)
    (hba : wC.heap.size = ba) (hD : wC.alloc (.cells #[.slice none 0 0, .bool true] 31) = wD) : Pk W wD t c ba [] none fv (.slice none 0 0) true [] := by
  obtain ⟨R, L, h1, h2⟩ := h
  have hCD : Below wC.heap.size wC wD := by rw [← hD]; exact (Below.refl _ _).alloc (Nat.le_refl _) _
  have hAD := (hB.trans (hC.mono hB.size)).trans (hCD.mono (Nat.le_trans hB.size hC.size))
  have hbx : wD.heap[ba]? = some (.cells #[.slice none 0 0, .bool true] 31 (0, 0)) := by rw [← hD, ← hba]; exact heap_alloc_new _ _
  have hbl : ba < wD.heap.size := (Array.getElem?_eq_some_iff.1 hbx).1
  have hs := h1.bel.size
  have l1 := hc2.lt
  have s1 := hB.size
  have s2 := hC.size
  have s3 := hCD.size
  have hlow : ∀ k, R k → k < wA.heap.size := fun k hk => by obtain ⟨F, _, q, _⟩ := h1; exact (q k hk).2
  have h2D := h2.below hAD
  refine ⟨R, fun k => R k ∨ (wA.heap.size ≤ k ∧ k < wD.heap.size), L, h1.more hAD (fun k hk => hk), fun k hk => .inl hk, fun k hk => h2D.rb k hk, h2D,
    hc2.step (Frm.of_below (F := fun _ => False) (hC.trans (hCD.mono hC.size))) (fun h => h), ⟨.inr ⟨hc1, by omega⟩, fun g => by have := hlow c g; omega, by omega⟩, hbx, ⟨.inr ⟨by omega, hbl⟩, fun g => by have := hlow ba g; omega, by omega, by omega⟩, (key_nil wD).elim fun a h => ?_⟩
  obtain ⟨b, off, cap, e, e1, e2⟩ := h
  exact ⟨a, b, off, cap, e, .inl rfl, e2⟩
theorem pi_next {st' : Option (List Nat)} (h : Pi W w t c ba gi bo ob es fx st fv kv en k ki cp) (hsz : ∀ k, st = some k → k.length ≤ 17592186044416) (hst : (st.bind fun k => seekSt es (k ++ [0])) = st') :
    Calls Try.prog 20 #[.pointer (some ⟨c, 0, none⟩)] w fun e w' => e = .returned (.bool st'.isSome) ∧ Pi W w' t c ba gi bo ob es fx st' fv kv en k ki cp := by
  obtain ⟨R, K, fL, q, q1, q2, q3, q4⟩ := h
  have hltb : bo < w.heap.size := (Array.getElem?_eq_some_iff.1 q4.2.2.2.2).1
  have hlt : gi < w.heap.size := by obtain ⟨F, _, g, _⟩ := q.tree; exact (g gi q1.1).2
  obtain ⟨F, h1, h2, h3⟩ := _root_.id q.tree
  refine (cnext_any _ w F t es h1 c st q.cur hsz).mono ?_
  rintro e w' ⟨rfl, hf, g2⟩
  rw [hst] at g2 ⊢
  exact ⟨rfl, R, K, fL, q.wrote hf q.kc g2 ((hf.heap (Array.getElem?_eq_some_iff.1 q.box).1 q.kb.2.2.2).trans q.box) q.key, q1, q2.step hf (fun x hx e => q1.2.2.2.1 (hx.symm.trans e)), q3.heap (hf.heap hlt q1.2.2.2.1), ⟨q4.1, q4.2.1, q4.2.2.1, q4.2.2.2.1, (hf.heap hltb q4.2.2.1).trans q4.2.2.2.2⟩⟩
/-- a new cursor -/
theorem Pi.seeked {c' : Nat} {st' : Option (List Nat)} (h : Pi W w t c ba gi bo ob es fx st fv kv en k ki cp) (hb : Below w.heap.size w w1) (hc1 : w.heap.size ≤ c') (hc2 : CurAt w1 c' t st') : Pi W w1 t c' ba gi bo ob es fx st' fv kv en k ki cp := by
  obtain ⟨R, K, fL, q, q1, q2, q3, q4⟩ := h
  have hltb : bo < w.heap.size := (Array.getElem?_eq_some_iff.1 q4.2.2.2.2).1
  have hlt : gi < w.heap.size := by obtain ⟨F, _, g, _⟩ := q.tree; exact (g gi q1.1).2
  have hbe : ba < w.heap.size := (Array.getElem?_eq_some_iff.1 q.box).1
  have hs := q.tree.bel.size
  have q' := q.more hb (fun _ => False) (fun _ h => h.elim)
  have hl := hc2.lt
  have hR : ∀ x, x = c' → ¬ (R x ∨ False) := fun x e g => by
    rcases g with g | g
    · have := (q.rl x g).2; omega
    · exact g
  exact ⟨_, _, fL, q'.moved hc2 ⟨.inr ⟨hc1, hl⟩, hR c' rfl, by omega⟩ (by omega), ⟨.inl q1.1, fun g => g.elim q1.2.1 (fun h => h), q1.2.2.1, by omega, q1.2.2.2.2⟩, q2.step (Frm.of_below (F := fun _ => False) hb) (fun _ _ h => h), q3.heap (hb.block _ hlt), ⟨.inl q4.1, q4.2.1, by omega, q4.2.2.2.1, (hb.block _ hltb).trans q4.2.2.2.2⟩⟩
/-- the document's cursor is written -/
theorem Pi.stand {kv' : Value} {en' : Bool} {k' : List Nat} {w2 : World} (h : Pi W w t c ba gi bo ob es fx st fv kv en k ki cp) (hb : Below w.heap.size w w1) (hk : KeyAt w1 (fun g => w.heap.size ≤ g ∧ g < w1.heap.size) kv' k')
    (hbx : w2.heap[ba]? = some (.cells #[kv', .bool en'] 31 (0, 0))) (hf : Frm (fun q => q = ba) w1 w2) : Pi W w2 t c ba gi bo ob es fx st fv kv' en' k' ki cp := by
  obtain ⟨R, K, fL, q, q1, q2, q3, q4⟩ := h
  have hltb : bo < w.heap.size := (Array.getElem?_eq_some_iff.1 q4.2.2.2.2).1
  have hlt : gi < w.heap.size := by obtain ⟨F, _, g, _⟩ := q.tree; exact (g gi q1.1).2
  have q' := q.more hb (fun g => w.heap.size ≤ g ∧ g < w1.heap.size) (fun _ h => h)
  have q2' := q2.step (Frm.of_below (F := fun _ => False) hb) (fun _ _ h => h)
  have q3' := q3.heap (hb.block _ hlt)
  have hlt1 : gi < w1.heap.size := Nat.lt_of_lt_of_le hlt hb.size
  refine ⟨_, _, fL, q'.wrote hf ⟨q'.kb.1, q'.kb.2.1, q'.kb.2.2.1⟩ (q'.cur.step hf (fun e => q'.kb.2.2.2 e.symm)) hbx (hk.mono fun _ h => .inr h), ⟨.inl q1.1, fun g => ?_, q1.2.2.1, q1.2.2.2.1, q1.2.2.2.2⟩, q2'.step hf (fun x hx e => q1.2.2.2.2 (hx.symm.trans e)), q3'.heap (hf.heap hlt1 q1.2.2.2.2), ⟨.inl q4.1, q4.2.1, q4.2.2.1, q4.2.2.2.1, (hf.heap (Nat.lt_of_lt_of_le hltb hb.size) q4.2.2.2.1).trans ((hb.block _ hltb).trans q4.2.2.2.2)⟩⟩
  rcases g with g | g
  · exact q1.2.1 g
  · omega
/-- the copy of the call's key was overwritten -/
theorem Pi.done (h : Pi W w t c ba gi bo ob es es st fv kv en k ki cp) (hf : Frm (fun q => q = gi) w w1) : Pk W w1 t c ba es st fv kv en k := by
  obtain ⟨R, K, fL, q, q1, q2, q3, q4⟩ := h
  have hltb : bo < w.heap.size := (Array.getElem?_eq_some_iff.1 q4.2.2.2.2).1
  exact ⟨R, K, fL, q.wrote hf ⟨q1.1, q1.2.1, q1.2.2.1⟩ (q.cur.step hf (fun e => q1.2.2.2.1 e.symm)) ((hf.heap (Array.getElem?_eq_some_iff.1 q.box).1 (fun e => q1.2.2.2.2 e.symm)).trans q.box) q.key⟩
theorem Pi.trx (h : Pi W w t c ba gi bo ob es fx st fv kv en k ki cp) : ∃ F, TrX W.heap.size w F t es := by
  obtain ⟨R, K, fL, q, -⟩ := h
  obtain ⟨F, g, -⟩ := q.tree
  exact ⟨F, g⟩
end

end Go.Proofs.Ytncganfjbalkgaa
