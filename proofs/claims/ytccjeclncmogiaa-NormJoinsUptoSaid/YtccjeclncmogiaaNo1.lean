/-
  Codes (checked expressions) as they lie in memory (layer 18).
  Conditions: none.
-/
import Derived.Test.YtccjeclncmogiaaGr1
import Derived.Test.YtccjeclncmogiaaKp
namespace Go.Proofs.Ytccjeclncmogiaa
open Go.RowKit Go.Joins Go.ChangeShapes Go.WideShapes
set_option linter.unusedVariables false
set_option linter.unusedSimpArgs false

/-- a code alone -/
inductive Cd where
  | mk (op ty : Int) (args : List Cd) (vk vn : Int) (vs : ByteArray) (tab col : Int)
/-- a code with the place of its operands -/
inductive XC where
  | mk (op ty : Int) (a : Option Addr) (cap : Nat) (args : List XC) (vk vn : Int) (vs : ByteArray) (tab col : Int)
mutual
/-- the code alone -/
def XC.er : XC → Cd
  | .mk op ty _ _ args vk vn vs tab col => .mk op ty (XC.erL args) vk vn vs tab col
def XC.erL : List XC → List Cd
  | [] => []
  | a :: r => XC.er a :: XC.erL r
end
/-- its cells -/
def XC.enc : XC → List Value
  | .mk op ty a cap args vk vn vs tab col => [.int .i64 op, .int .i64 ty, .slice a args.length cap, .int .i64 vk, .int .i64 vn, .string vs, .int .i64 tab, .int .i64 col]
def XC.encA : XC → Array Value
  | .mk op ty a cap args vk vn vs tab col => #[.int .i64 op, .int .i64 ty, .slice a args.length cap, .int .i64 vk, .int .i64 vn, .string vs, .int .i64 tab, .int .i64 col]
/-- its value -/
def XC.val : XC → Value
  | .mk op ty a cap args vk vn vs tab col => .agg #[.int .i64 op, .int .i64 ty, .slice a args.length cap, .int .i64 vk, .int .i64 vn, .string vs, .int .i64 tab, .int .i64 col]
theorem XC.encA_eq (x : XC) : x.encA = x.enc.toArray := by cases x; rfl
theorem XC.val_eq (x : XC) : x.val = .agg x.encA := by cases x; rfl
def XC.encL (l : List XC) : List Value := l.flatMap XC.enc
mutual
/-- its operands lie in blocks of K -/
def XC.Mem (K : Bl) (w : World) : XC → Prop
  | .mk _ _ a cap args _ _ _ _ _ => args.length ≤ cap ∧ cap ≤ maxLen ∧ (args = [] ∨ ∃ b o, a = some ⟨b, o, none⟩ ∧ K b ∧ b < w.heap.size ∧ ∀ j u, (XC.encL args)[j]? = some u → w.cell? ⟨b, o + j, none⟩ = some u) ∧ XC.MemL K w args
def XC.MemL (K : Bl) (w : World) : List XC → Prop
  | [] => True
  | x :: r => XC.Mem K w x ∧ XC.MemL K w r
end
theorem XC.enc_len (x : XC) : x.enc.length = 8 := by cases x; rfl
theorem XC.enc_one (x : XC) : ∀ u ∈ x.enc, u.oneCell' = true := by
  cases x
  intro u hu
  unfold XC.enc at hu
  simp only [List.mem_cons, List.not_mem_nil, or_false] at hu
  rcases hu with rfl | rfl | rfl | rfl | rfl | rfl | rfl | rfl <;> rfl
/-- codes as a kind of row -/
def ck : RK Try.prog XC where
  enc := XC.enc
  n := 8
  te := 26
  ts := 22
  bytes := 88
  z := .agg #[.int .i64 0, .int .i64 0, .slice none 0 0, .int .i64 0, .int .i64 0, .string ByteArray.empty, .int .i64 0, .int .i64 0]
  len := XC.enc_len
  one := XC.enc_one
  pos := by decide
  by0 := by decide
  hu := Try.underlying22
  info := by kernel_rfl
  zc := rfl
theorem XC.erL_length : ∀ l : List XC, (XC.erL l).length = l.length
  | [] => by simp [XC.erL]
  | x :: r => by simp [XC.erL, XC.erL_length r]
theorem XC.erL_map : ∀ l : List XC, XC.erL l = l.map XC.er
  | [] => by simp [XC.erL]
  | x :: r => by simp [XC.erL, XC.erL_map r]
theorem XC.memL_iff {K : Bl} {w : World} : ∀ {l : List XC}, XC.MemL K w l ↔ ∀ x ∈ l, XC.Mem K w x
  | [] => by simp [XC.MemL]
  | x :: r => by simp [XC.MemL, XC.memL_iff (l := r)]
mutual
theorem XC.Mem.frm {K F : Bl} {w w1 : World} (f : Frm F w w1) (hd : ∀ k, K k → ¬ F k) : ∀ x : XC, XC.Mem K w x → XC.Mem K w1 x
  | .mk _ _ a cap args _ _ _ _ _, h => by
    unfold XC.Mem at h ⊢
    obtain ⟨h1, h2, h3, h4⟩ := h
    refine ⟨h1, h2, ?_, XC.MemL.frm f hd args h4⟩
    rcases h3 with h3 | ⟨b, o, e1, e2, e3, e4⟩
    · exact .inl h3
    · exact .inr ⟨b, o, e1, e2, Nat.lt_of_lt_of_le e3 f.size, fun j u hj => (f.cell e3 (hd b e2) _).trans (e4 j u hj)⟩
theorem XC.MemL.frm {K F : Bl} {w w1 : World} (f : Frm F w w1) (hd : ∀ k, K k → ¬ F k) : ∀ l : List XC, XC.MemL K w l → XC.MemL K w1 l
  | [], _ => by simp [XC.MemL]
  | x :: r, h => by
    unfold XC.MemL at h ⊢
    exact ⟨XC.Mem.frm f hd x h.1, XC.MemL.frm f hd r h.2⟩
end
mutual
theorem XC.Mem.mono {K K' : Bl} {w : World} (hd : ∀ k, K k → K' k) : ∀ x : XC, XC.Mem K w x → XC.Mem K' w x
  | .mk _ _ a cap args _ _ _ _ _, h => by
    unfold XC.Mem at h ⊢
    obtain ⟨h1, h2, h3, h4⟩ := h
    refine ⟨h1, h2, ?_, XC.MemL.mono hd args h4⟩
    rcases h3 with h3 | ⟨b, o, e1, e2, e3, e4⟩
    · exact .inl h3
    · exact .inr ⟨b, o, e1, hd _ e2, e3, e4⟩
theorem XC.MemL.mono {K K' : Bl} {w : World} (hd : ∀ k, K k → K' k) : ∀ l : List XC, XC.MemL K w l → XC.MemL K' w l
  | [], _ => by simp [XC.MemL]
  | x :: r, h => by
    unfold XC.MemL at h ⊢
    exact ⟨XC.Mem.mono hd x h.1, XC.MemL.mono hd r h.2⟩
end
mutual
theorem XC.Mem.old {K : Bl} {w : World} : ∀ x : XC, XC.Mem K w x → XC.Mem (fun k => K k ∧ k < w.heap.size) w x
  | .mk _ _ a cap args _ _ _ _ _, h => by
    unfold XC.Mem at h ⊢
    obtain ⟨h1, h2, h3, h4⟩ := h
    refine ⟨h1, h2, ?_, XC.MemL.old args h4⟩
    rcases h3 with h3 | ⟨b, o, e1, e2, e3, e4⟩
    · exact .inl h3
    · exact .inr ⟨b, o, e1, ⟨e2, e3⟩, e3, e4⟩
theorem XC.MemL.old {K : Bl} {w : World} : ∀ l : List XC, XC.MemL K w l → XC.MemL (fun k => K k ∧ k < w.heap.size) w l
  | [], _ => by simp [XC.MemL]
  | x :: r, h => by
    unfold XC.MemL at h ⊢
    exact ⟨XC.Mem.old x h.1, XC.MemL.old r h.2⟩
end
theorem XC.Mem.below {K : Bl} {w w1 : World} {x : XC} (h : XC.Mem K w x) (hb : Below w.heap.size w w1) : XC.Mem K w1 x := XC.Mem.frm (Frm.of_below (F := fun _ => False) hb) (fun _ _ e => e) x h
theorem XC.MemL.below {K : Bl} {w w1 : World} {l : List XC} (h : XC.MemL K w l) (hb : Below w.heap.size w w1) : XC.MemL K w1 l := XC.MemL.frm (Frm.of_below (F := fun _ => False) hb) (fun _ _ e => e) l h
/-- a code without operands -/
theorem XC.Mem.leaf (K : Bl) (w : World) (op ty vk vn : Int) (vs : ByteArray) (tab col : Int) : XC.Mem K w (.mk op ty none 0 [] vk vn vs tab col) := by
  unfold XC.Mem
  exact ⟨Nat.le_refl _, by decide, .inl rfl, by simp [XC.MemL]⟩
/-- a code over a row that lies -/
theorem XC.Mem.node {K : Bl} {w : World} (op ty vk vn : Int) (vs : ByteArray) (tab col : Int) (g : Nat) (l : List XC) (hl : l.length ≤ maxLen) (hg : K g) (hs : g < w.heap.size) (hc : ∀ j u, (XC.encL l)[j]? = some u → w.cell? ⟨g, j, none⟩ = some u) (hm : XC.MemL K w l) :
    XC.Mem K w (.mk op ty (some ⟨g, 0, none⟩) l.length l vk vn vs tab col) := by
  unfold XC.Mem
  exact ⟨Nat.le_refl _, hl, .inr ⟨g, 0, rfl, hg, hs, fun j u hj => by rw [Nat.zero_add]; exact hc j u hj⟩, hm⟩
/-- a list of codes as a row: the operands of a code -/
abbrev XC.Row (K : Bl) (w : World) (a : Option Addr) (cap : Nat) (l : List XC) : Prop := XC.Mem K w (.mk 0 0 a cap l 0 0 ⟨#[]⟩ 0 0)
theorem XC.Mem.row {K : Bl} {w : World} {op ty vk vn tab col : Int} {vs : ByteArray} {a : Option Addr} {cap : Nat} {l : List XC} (h : XC.Mem K w (.mk op ty a cap l vk vn vs tab col)) : XC.Row K w a cap l := by
  unfold XC.Row
  unfold XC.Mem at h ⊢
  exact h
theorem XC.Row.mem {K : Bl} {w : World} {a : Option Addr} {cap : Nat} {l : List XC} (h : XC.Row K w a cap l) (op ty vk vn : Int) (vs : ByteArray) (tab col : Int) : XC.Mem K w (.mk op ty a cap l vk vn vs tab col) := by
  unfold XC.Row at h
  unfold XC.Mem at h ⊢
  exact h
theorem XC.Row.bounds {K : Bl} {w : World} {a : Option Addr} {cap : Nat} {l : List XC} (h : XC.Row K w a cap l) : l.length ≤ cap ∧ cap ≤ maxLen := by
  unfold XC.Row XC.Mem at h
  exact ⟨h.1, h.2.1⟩
/-- where the k-th of a row lies -/
theorem XC.Row.at {K : Bl} {w : World} {a : Option Addr} {cap : Nat} {l : List XC} (h : XC.Row K w a cap l) {k : Nat} {x : XC} (hx : l[k]? = some x) :
    ∃ b o, a = some ⟨b, o, none⟩ ∧ K b ∧ b < w.heap.size ∧ (∀ j u, x.enc[j]? = some u → w.cell? ⟨b, o + k * 8 + j, none⟩ = some u) ∧ XC.Mem K w x := by
  unfold XC.Row XC.Mem at h
  obtain ⟨-, -, h3, h4⟩ := h
  have hne : l ≠ [] := by rintro rfl; simp at hx
  rcases h3 with h3 | ⟨b, o, e1, e2, e3, e4⟩
  · exact absurd h3 hne
  · refine ⟨b, o, e1, e2, e3, fun j u hj => ?_, XC.memL_iff.1 h4 x (List.mem_of_getElem? hx)⟩
    have hj8 : j < 8 := by rw [← XC.enc_len x]; exact (List.getElem?_eq_some_iff.1 hj).1
    rw [Nat.add_assoc]
    refine e4 _ u ?_
    have := RK.cells_at ck l k j x hx hj8
    exact this.trans hj
mutual
/-- how deep a code is -/
def depC : Cd → Nat
  | .mk _ _ args _ _ _ _ _ => depCL args + 1
def depCL : List Cd → Nat
  | [] => 0
  | a :: r => max (depC a) (depCL r)
end
theorem depCL_mem : ∀ {l : List Cd} {e : Cd}, e ∈ l → depC e ≤ depCL l
  | [], e, h => by cases h
  | a :: r, e, h => by
    rw [depCL]
    rcases List.mem_cons.1 h with rfl | h
    · omega
    · have := depCL_mem h; omega
theorem dep_arg {op ty vk vn tab col : Int} {vs : ByteArray} {a : Option Addr} {cap N : Nat} {args : List XC} (h : depC (XC.er (.mk op ty a cap args vk vn vs tab col)) < N + 1) : ∀ x ∈ args, depC x.er < N := fun x hx => by
  rw [XC.er, depC] at h
  have := depCL_mem (l := XC.erL args) (e := x.er) (by rw [XC.erL_map]; exact List.mem_map_of_mem hx)
  omega

end Go.Proofs.Ytccjeclncmogiaa
