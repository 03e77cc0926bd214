/-
  A code copied (norm's copyCode), over the translation (layer 18).
  Conditions: the code lies in memory.
-/
import Derived.Test.YtccjeclncmogiaaNo6
namespace Go.Proofs.Ytccjeclncmogiaa
open Go.RowKit Go.Joins Go.ChangeShapes Go.WideShapes
set_option linter.unusedVariables false
set_option linter.unusedSimpArgs false

mutual
/-- every row begins at its block's begin -/
def XC.Al : XC → Prop
  | .mk _ _ a _ args _ _ _ _ _ => (args = [] ∨ ∃ b, a = some ⟨b, 0, none⟩) ∧ XC.AlL args
def XC.AlL : List XC → Prop
  | [] => True
  | x :: r => XC.Al x ∧ XC.AlL r
end
theorem XC.alL_iff : ∀ {l : List XC}, XC.AlL l ↔ ∀ x ∈ l, XC.Al x
  | [] => by simp [XC.AlL]
  | x :: r => by simp [XC.AlL, XC.alL_iff (l := r)]
theorem OwR.al {w : World} {B : Nat} {l : List XC} {a : Option Addr} {cap : Nat} (h : OwR ck w B (.slice a l.length cap) l) (hl : XC.AlL l) (op ty vk vn : Int) (vs : ByteArray) (tab col : Int) : XC.Al (.mk op ty a cap l vk vn vs tab col) := by
  unfold XC.Al
  refine ⟨?_, hl⟩
  rcases h.cases with ⟨-, rfl⟩ | ⟨g, c, cur, e, -⟩
  · exact .inl rfl
  · injection e with e
    exact .inr ⟨g, e⟩
/-- a code's cells with these operands -/
abbrev cel (op ty : Int) (v : Value) (vk vn : Int) (vs : ByteArray) (tab col : Int) : Array Value := #[.int .i64 op, .int .i64 ty, v, .int .i64 vk, .int .i64 vn, .string vs, .int .i64 tab, .int .i64 col]
/-- a copy that is being made -/
structure CpS (w wr : World) (cs : Array Value) (v : Value) (args : List XC) (k : Nat) (ys : List XC) : Prop where
  bx : Bx wr w.heap.size cs 26
  rb : Bx wr (w.heap.size + 1) zc8 26
  own : OwR ck wr (w.heap.size + 2) v (ys ++ args.drop k)
  len : ys.length = k
  er : XC.erL ys = (XC.erL args).take k
  mm : ∀ y ∈ ys, XC.Mem (fun q => w.heap.size + 2 ≤ q ∧ v.ownBlock ≠ some q) wr y
  al : ∀ y ∈ ys, XC.Al y
  bel : Below w.heap.size w wr
theorem CpS.below {w wr w2 : World} {cs : Array Value} {v : Value} {args : List XC} {k : Nat} {ys : List XC} (h : CpS w wr cs v args k ys) (hb : Below wr.heap.size wr w2) : CpS w w2 cs v args k ys :=
  ⟨h.bx.below hb, h.rb.below hb, h.own.below hb, h.len, h.er, fun y hy => (h.mm y hy).below hb, h.al, h.bel.trans (hb.mono h.bel.size)⟩
theorem CpS.put {w w2 : World} {cs : Array Value} {v : Value} {args : List XC} {k : Nat} {ys : List XC} (h : CpS w w2 cs v args k ys) {x y : XC} (hx : args[k]? = some x) (he : y.er = x.er) (ha : y.Al) (hm : XC.Mem (fun q => w.heap.size + 2 ≤ q ∧ v.ownBlock ≠ some q) w2 y) :
    ∃ g cap, v = .slice (some ⟨g, 0, none⟩) args.length cap ∧ g < w2.heap.size ∧ CpS w (w2.setCells g (k * 8) y.enc) cs v args (k + 1) (ys ++ [y]) := by
  have hk : k < args.length := (List.getElem?_eq_some_iff.1 hx).1
  have hlen : (ys ++ args.drop k).length = args.length := by rw [List.length_append, h.len, List.length_drop]; omega
  obtain ⟨g, cap, wz, e1, e2, e3, e4, e5, e6, e7⟩ := h.own.put (i := k) (by rw [hlen]; exact hk) y
  refine ⟨g, cap, by rw [e1, hlen], e3, ?_⟩
  · have e7' : wz = w2.setCells g (k * 8) y.enc := e7
    rw [← e7']
    have hs : (ys ++ args.drop k).set k y = (ys ++ [y]) ++ args.drop (k + 1) := by
      rw [List.set_append, if_neg (by rw [h.len]; omega), h.len, Nat.sub_self, List.append_assoc]
      congr 1
      rw [List.drop_eq_getElem_cons hk]
      rfl
    have hv : v.ownBlock = some g := by rw [e1]; rfl
    refine ⟨h.bx.frm' e6 (by omega), h.rb.frm' e6 (by omega), by rw [← hs]; exact e5, by rw [List.length_append, h.len]; rfl, ?_, fun z hz => ?_, fun z hz => ?_, ?_⟩
    · rw [XC.erL_map, List.map_append, ← XC.erL_map, h.er, List.take_add_one, XC.erL_map args, List.getElem?_map, hx]
      simp [he]
    · have : ∀ z, XC.Mem (fun q => w.heap.size + 2 ≤ q ∧ v.ownBlock ≠ some q) w2 z → XC.Mem (fun q => w.heap.size + 2 ≤ q ∧ v.ownBlock ≠ some q) wz z := fun z hz => XC.Mem.frm e6 (fun q hq e => hq.2 (by rw [hv, e])) z hz
      rcases List.mem_append.1 hz with hz | hz
      · exact this z (h.mm z hz)
      · rw [List.mem_singleton.1 hz]; exact this y hm
    · rcases List.mem_append.1 hz with hz | hz
      · exact h.al z hz
      · rw [List.mem_singleton.1 hz]; exact ha
    · have f : Frm (fun q => w.heap.size + 2 ≤ q) w2 wz := e6.mono (fun q hq => by rw [hq]; exact e2)
      exact h.bel.trans (f.below (fun q hq => by omega) h.bel.size)

end Go.Proofs.Ytccjeclncmogiaa
