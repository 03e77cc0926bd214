/-
  The reader's sign (layer 12): contracts over the translation.
  Conditions: the reader lies in memory.
-/
import Derived.Test.YtlhipnklljjahaaDoorLx8
namespace Go.Proofs.YtlhipnklljjahaaDoor
set_option maxRecDepth 100000
open Go.RowKit Go.Joins Go.ChangeShapes Go.WideShapes
set_option linter.unusedVariables false
set_option linter.unusedSimpArgs false

/-- a token as it is handed out -/
def Tkv (k : Int) (s : ByteArray) (n sc : Int) : Value := .agg #[.int .i64 k, .string s, .int .i64 n, .int .i64 sc]
/-- how a piece of the reader ends: with an error, or with a token, and the rest stands behind it -/
def TokP (x : Except Nat (Tk × Nat)) (w : World) (rd b : Nat) (l : List Nat) (e : Ending) (w' : World) : Prop := match x with
  | .error er => e = .returned (.tuple #[Tkv 0 ⟨#[]⟩ 0 0, .int .i64 (er : Int)]) ∧ Frm (fun k => k = rd) w w'
  | .ok (t, k) => e = .returned (.tuple #[Tkv t.kind (strB t.text) t.num t.scale, .int .i64 0]) ∧ ∃ off' cap', Rd w' rd b off' cap' (l.drop k) ∧ Frm (fun k => k = rd) w w'
def sgnE (l : List Nat) : Except Nat (Tk × Nat) := if signL l = 0 then .error 120 else .ok (⟨5, l.take (signL l), 0, 0⟩, signL l)
theorem Rd.frm {F : Bl} {w w1 : World} {rd b off cap : Nat} {l : List Nat} (h : Rd w rd b off cap l) (f : Frm F w w1) (h1 : ¬ F rd) (h2 : ¬ F b) : Rd w1 rd b off cap l :=
  ⟨(f.heap (Array.getElem?_eq_some_iff.1 h.hd).1 h1).trans h.hd, f.isB h.is (fun _ => h2), h.cp, h.sz, h.ln, h.ne⟩
/-- the token stored in the box of the result -/
theorem Rd.boxed {w w2 : World} {rd b off' cap' : Nat} {l : List Nat} (f2 : Frm (fun k => k = rd) w w2) (h : Rd w2 rd b off' cap' l) (h1 : rd < w.heap.size) (h2 : b < w.heap.size) (v0 v1 v2 v3 : Value) :
    Rd ((((w2.setCell ⟨w.heap.size, 0, none⟩ v0).setCell ⟨w.heap.size, 1, none⟩ v1).setCell ⟨w.heap.size, 2, none⟩ v2).setCell ⟨w.heap.size, 3, none⟩ v3) rd b off' cap' l ∧
      Frm (fun k => k = rd) w ((((w2.setCell ⟨w.heap.size, 0, none⟩ v0).setCell ⟨w.heap.size, 1, none⟩ v1).setCell ⟨w.heap.size, 2, none⟩ v2).setCell ⟨w.heap.size, 3, none⟩ v3) := by
  refine ⟨h.frm (F := fun k => k = w.heap.size) (((((Frm.refl (fun k => k = w.heap.size) w2).setCell (.inl rfl) 0 v0).setCell (.inl rfl) 1 v1).setCell (.inl rfl) 2 v2).setCell (.inl rfl) 3 v3) (by show ¬ rd = w.heap.size; omega) (by show ¬ b = w.heap.size; omega), ?_⟩
  exact (((f2.setCell (.inr (Nat.le_refl _)) 0 v0).setCell (.inr (Nat.le_refl _)) 1 v1).setCell (.inr (Nat.le_refl _)) 2 v2).setCell (.inr (Nat.le_refl _)) 3 v3
theorem box_set {w : World} {g : Nat} {cs : Array Value} {ty : TypeId} {fz : Nat × Nat} (hb : w.heap[g]? = some (.cells cs ty fz)) (o : Nat) (u : Value) : (w.setCell ⟨g, o, none⟩ u).heap[g]? = some (.cells (cs.setIfInBounds o u) ty fz) := by
  rw [setCell_eq_setRow w g o _ _ _ _ hb, setRow_heap w g _ _ _ _ hb]
theorem box_four {w2 : World} {g : Nat} {u0 u1 u2 u3 : Value} {ty : TypeId} {fz : Nat × Nat} (hb : w2.heap[g]? = some (.cells #[u0, u1, u2, u3] ty fz)) (v0 v1 v2 v3 : Value) :
    ((((w2.setCell ⟨g, 0, none⟩ v0).setCell ⟨g, 1, none⟩ v1).setCell ⟨g, 2, none⟩ v2).setCell ⟨g, 3, none⟩ v3).heap[g]? = some (.cells #[v0, v1, v2, v3] ty fz) :=
  box_set (box_set (box_set (box_set hb 0 v0) 1 v1) 2 v2) 3 v3
/-- a result in its box -/
theorem tok_ret {R : Ending → World → Prop} {fn : Func} (hr : fn.results = #[.cell 2 29, .tmp 3]) {a : Act} {w : World} {g : Nat} {k n sc er : Int} {s : ByteArray} (hb : w.heap[g]? = some (.cells #[.int .i64 k, .string s, .int .i64 n, .int .i64 sc] 29 (0, 0)))
    (h2 : a.tmps[2]?.getD undef = .pointer (some ⟨g, 0, none⟩)) (h3 : a.tmps[3]?.getD undef = .int .i64 er) (hd : a.defers = []) (hR : R (.returned (.tuple #[Tkv k s n sc, .int .i64 er])) w) : bodyPost Tryd.prog fn R .ret a w := by
  have z0 : w.cell? ⟨g, 0, none⟩ = some (.int .i64 k) := by rw [cell_of_block hb]; rfl
  have z1 : w.cell? ⟨g, 1, none⟩ = some (.string s) := by rw [cell_of_block hb]; rfl
  have z2 : w.cell? ⟨g, 2, none⟩ = some (.int .i64 n) := by rw [cell_of_block hb]; rfl
  have z3 : w.cell? ⟨g, 3, none⟩ = some (.int .i64 sc) := by rw [cell_of_block hb]; rfl
  exact bodyPost_ret (v := .tuple #[Tkv k s n sc, .int .i64 er]) (by simp [results, hr, go_sem, z0, z1, z2, z3, h2, h3, Tkv]) hd hR
set_option maxHeartbeats 2000000 in
theorem sign_any {w : World} {rd b off cap : Nat} {l : List Nat} (h : Rd w rd b off cap l) (h0 : l ≠ []) :
    Calls Tryd.prog 22 #[.pointer (some ⟨rd, 0, none⟩)] w (TokP (sgnE l) w rd b l) := by
  have b1 : Below w.heap.size w (w.alloc (.cells #[.int .i64 0, .string ⟨#[]⟩, .int .i64 0, .int .i64 0] 29)) := (Below.refl _ _).alloc (Nat.le_refl _) _
  have h1 := h.below b1
  have hbl : b < w.heap.size := h.is.hb (List.length_pos_iff.2 h0)
  have hrd : rd < w.heap.size := (Array.getElem?_eq_some_iff.1 h.hd).1
  have HS := Lib.hid (signsize_any h1.is h0 h1.cp)
  have HT := Lib.hid (take_any h1 (signL l))
  have c0 : w.cell? ⟨rd, 0, none⟩ = some (.slice (some ⟨b, off, none⟩) l.length cap) := by rw [cell_of_block h.hd]; rfl
  have c1 : (w.alloc (.cells #[.int .i64 0, .string ⟨#[]⟩, .int .i64 0, .int .i64 0] 29)).cell? ⟨rd, 0, none⟩ = some (.slice (some ⟨b, off, none⟩) l.length cap) := by rw [cell_of_block h1.hd]; rfl
  have hle : signL l ≠ 0 → signL l ≤ l.length := fun hq => (signL_app (e := 32) rfl [] l hq).2
  have HI := Lib.hid h1.is
  have HB := Lib.hid (show ¬ b = rd from fun e => h.ne e.symm)
  obtain ⟨n, hn⟩ : ∃ n, l.length = n := ⟨_, rfl⟩
  have HX := Lib.hid (rfl : sgnE l = sgnE l)
  unfold sgnE at HX ⊢
  generalize signL l = q at *
  rw [hn] at HS c0 c1
  have hnew := heap_alloc_new w (.cells #[.int .i64 0, .string ⟨#[]⟩, .int .i64 0, .int .i64 0] 29)
  have HN := Lib.hid hnew
  have HBel := Lib.hid b1
  have hsz : w.heap.size < (w.alloc (.cells #[.int .i64 0, .string ⟨#[]⟩, .int .i64 0, .int .i64 0] 29)).heap.size := by simp
  have HZ := Lib.hid hsz
  clear h h1 b1 hnew hsz HX
  by_cases c : q = 0
  · subst c
    rw [if_pos rfl]
    generalize hP : TokP (.error 120) w rd b l = P
    have HF := Lib.hid (show P (.returned (.tuple #[Tkv 0 ⟨#[]⟩ 0 0, .int .i64 120])) (w.alloc (.cells #[.int .i64 0, .string ⟨#[]⟩, .int .i64 0, .int .i64 0] 29)) by
      rw [← hP]
      exact ⟨rfl, Frm.of_below HBel.out⟩)
    clear hP
    go_enter Tryd.func22, Tryd.ntmps22
    go_wp2_with (first | (go_at_call 34; refine HS.out.mono ?_; rintro e w' ⟨rfl, rfl⟩))
    exact tok_ret Tryd.results22 HN.out rfl rfl rfl HF.out
  · rw [if_neg c]
    generalize hP : TokP (.ok (⟨5, l.take q, 0, 0⟩, q)) w rd b l = P
    have HP := Lib.hid hP
    clear hP
    have cz : ((q : Int) == 0) = false := by simp [c]
    have HT1 := Lib.hid (HT.out (hle c))
    clear HT
    go_enter Tryd.func22, Tryd.ntmps22
    go_wp2_with (first | (go_at_call 34; refine HS.out.mono ?_; rintro e w' ⟨rfl, rfl⟩))
    go_at_call 17
    refine HT1.out.mono ?_
    rintro e w2 ⟨rfl, off', cap', r2, f2⟩
    have hcv := str_b (f2.isB HI.out (fun _ => HB.out)) q cap (by rw [hn]; exact hn ▸ hle c)
    have hbx : w2.heap[w.heap.size]? = some (.cells #[.int .i64 0, .string ⟨#[]⟩, .int .i64 0, .int .i64 0] 29 (0, 0)) := (f2.heap HZ.out (by omega)).trans HN.out
    have HX := Lib.hid (show P (.returned (.tuple #[Tkv 5 (strB (l.take q)) 0 0, .int .i64 0])) ((((w2.setCell ⟨w.heap.size, 0, none⟩ (.int .i64 5)).setCell ⟨w.heap.size, 1, none⟩ (.string (strB (l.take q)))).setCell ⟨w.heap.size, 2, none⟩ (.int .i64 0)).setCell ⟨w.heap.size, 3, none⟩ (.int .i64 0)) by
      rw [← HP.out]
      obtain ⟨x1, x2⟩ := Rd.boxed ((Frm.of_below (F := fun k => k = rd) HBel.out).trans f2 (New.refl _ _)) r2 hrd hbl (.int .i64 5) (.string (strB (l.take q))) (.int .i64 0) (.int .i64 0)
      exact ⟨rfl, off', cap', x1, x2⟩)
    have e0 : w2.cell? ⟨w.heap.size, 0, none⟩ = some (.int .i64 0) := by rw [cell_of_block hbx]; rfl
    have e1 : w2.cell? ⟨w.heap.size, 1, none⟩ = some (.string ⟨#[]⟩) := by rw [cell_of_block hbx]; rfl
    have e2 : w2.cell? ⟨w.heap.size, 2, none⟩ = some (.int .i64 0) := by rw [cell_of_block hbx]; rfl
    have e3 : w2.cell? ⟨w.heap.size, 3, none⟩ = some (.int .i64 0) := by rw [cell_of_block hbx]; rfl
    have f0 := unfrozen_of_block hbx 0
    have f1 := unfrozen_of_block hbx 1
    have f4 := unfrozen_of_block hbx 2
    have f3 := unfrozen_of_block hbx 3
    clear r2 f2
    go_wp2_with fail
    exact tok_ret Tryd.results22 (box_four hbx _ _ _ _) rfl rfl rfl HX.out

end Go.Proofs.YtlhipnklljjahaaDoor
