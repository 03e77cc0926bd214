/-
  Package keys over the translation: a reading's text.
  Conditions: the reader and its bytes lie in memory.
-/
import Derived.Test.YtpknoclnmhomiaaKs5
namespace Go.Proofs.Ytpknoclnmhomiaa
open Go.RowKit Go.Joins Go.ChangeShapes Go.WideShapes
set_option linter.unusedVariables false

/-- how many bytes a reader has ahead -/
def rlen (w : World) (gr : Nat) : Nat := match w.cell? ⟨gr, 0, none⟩ with | some (.slice _ n _) => n | _ => 0
theorem Rd.len {w : World} {gr b off : Nat} {l : List Nat} (h : Rd w gr b off l) : rlen w gr = l.length := by
  obtain ⟨a, cap, h1, -⟩ := h.box
  unfold rlen
  rw [cell_of_block h1]
  rfl
/-- what is read so far, beside the reader -/
structure Tx (w wr : World) (gr : Nat) (x : Value) (acc : List Nat) : Prop where
  own : wr.ownsRow w.heap.size 5 1 x acc.length (bcells acc)
  gro : w.grownBy wr (some gr)
  lt : gr < w.heap.size
theorem Tx.ne {w wr : World} {gr : Nat} {x : Value} {acc : List Nat} (h : Tx w wr gr x acc) (g : Nat) (hg : g < w.heap.size) : some g ≠ x.ownBlock := fun e => by
  have := (h.own.lt g e.symm).1
  omega
theorem Tx.set {w wr w1 : World} {gr : Nat} {x : Value} {acc : List Nat} (h : Tx w wr gr x acc) (hg : wr.grownBy w1 (some gr)) : Tx w w1 gr x acc :=
  ⟨h.own.kept hg (.inr fun e => h.ne gr h.lt e.symm), h.gro.trans hg, h.lt⟩
theorem Tx.alloc {w wr : World} {gr : Nat} {x : Value} {acc : List Nat} (h : Tx w wr gr x acc) (o : Obj) : Tx w (wr.alloc o) gr x acc := h.set (World.grownBy_alloc _ _ _)
theorem Tx.push {w wr w1 : World} {gr : Nat} {x x' : Value} {acc acc' : List Nat} (h : Tx w wr gr x acc) (ho : OwB w1 w.heap.size x' acc') (hg : wr.grownBy w1 x.ownBlock) : Tx w w1 gr x' acc' :=
  ⟨ho.1, ⟨hg.os.trans h.gro.os, hg.tape.trans h.gro.tape, hg.output.trans h.gro.output, Nat.le_trans h.gro.size hg.size, fun k hk hne => (hg.block k (Nat.lt_of_lt_of_le hk h.gro.size) (h.ne k hk)).trans (h.gro.block k hk hne)⟩, h.lt⟩
theorem own_form {w : World} {base : Nat} {e : TypeId} {size : Nat} {v : Value} {n : Nat} {xs : List Value} (h : w.ownsRow base e size v n xs) : ∃ a cap, v = .slice a n cap := by
  rcases h.2 with ⟨rfl, rfl⟩ | ⟨g, cap, cur, rfl, _⟩
  · exact ⟨_, _, rfl⟩
  · exact ⟨_, _, rfl⟩
theorem own_str {w : World} {base : Nat} {v : Value} {l : List Nat} (h : w.ownsRow base 5 1 v l.length (bcells l)) : (convert 25 9 v).run Try.prog w = .ok (.string (strB l)) w := by
  by_cases c : v = .slice none 0 0
  · subst c
    have : l = [] := by
      rcases h.2 with ⟨_, e⟩ | ⟨g, cap, cur, e, _⟩
      · exact List.length_eq_zero_iff.1 e
      · cases e
    subst this
    exact run_convert_bytes_nil w 25 5 Try.underlying25 Try.underlying5 0 0 9 Try.underlying9
  · exact str_own (base := base) ⟨h, c⟩
theorem tapp_err {acc : List Nat} {x : Int × List Nat × List Nat} {c : Int} (h : x.1 = c) (hc : c ≠ 0) : (tapp acc x).1 = c := by
  unfold tapp
  rw [if_neg (by rw [h]; exact hc)]
  exact h

set_option maxHeartbeats 4000000 in
theorem text_step (w : World) (gr b off : Nat) (l : List Nat) (hl : l.length ≤ 4294967296) (h : Rd w gr b off l) :
    Calls Try.prog 43 #[.pointer (some ⟨gr, 0, none⟩)] w fun e w' =>
      w.grownBy w' (some gr) ∧ ((txt 0 l).1 = 0 → e = .returned (.string (strB (txt 0 l).2.1)) ∧ ∃ off', Rd w' gr b off' (txt 0 l).2.2) ∧ ((txt 0 l).1 ≠ 0 → e = Pan (txt 0 l).1) := by
  obtain ⟨T, hT⟩ : ∃ T, txt 0 l = T := ⟨_, rfl⟩
  rw [hT]
  generalize hP : (fun (e : Ending) (w' : World) => w.grownBy w' (some gr) ∧ (T.1 = 0 → e = .returned (.string (strB T.2.1)) ∧ ∃ off', Rd w' gr b off' T.2.2) ∧ (T.1 ≠ 0 → e = Pan T.1)) = P
  have hgood : ∀ (acc rest : List Nat) (w' : World) (off' : Nat), T = (0, acc, rest) → w.grownBy w' (some gr) → Rd w' gr b off' rest → P (.returned (.string (strB acc))) w' := by
    intro acc rest w' off' h1 h2 h3; rw [← hP, h1]; exact ⟨h2, fun _ => ⟨rfl, off', h3⟩, fun h => absurd rfl h⟩
  have hbad : ∀ (c : Int) (w' : World), T.1 = c → c ≠ 0 → w.grownBy w' (some gr) → P (Pan c) w' := by
    intro c w' h1 h2 h3; rw [← hP]; subst h1; exact ⟨h3, fun h => absurd h h2, fun _ => rfl⟩
  have HG := Lib.hid hgood
  have HB := Lib.hid hbad
  have HL := Lib.hid hl
  have HR := Lib.hid h
  have HNN := Lib.hid next_nil
  have HNC := Lib.hid next_cons
  have HMO := Lib.hid must_ok
  have HMN := Lib.hid must_no
  have HBL := Lib.hid h.row.hb
  have HT := Lib.hid hT
  clear hP hgood hbad h hl hT
  go_enter Try.func43, Try.ntmps43
  go_wp2_with fail
  go_loopw [3] (fun x wr => ∃ (acc rest : List Nat) (off' : Nat), Rd wr gr b off' rest ∧ Tx w wr gr x acc ∧ Hid (T = tapp acc (txt acc.length rest)) ∧ acc.length ≤ 200 ∧ rest.length ≤ l.length) (fun _ wr => rlen wr gr)
  case atStart => exact ⟨[], l, off, HR.out, ⟨World.ownsRow_nil w _ _ 1, World.grownBy.refl _ _, HR.out.lt⟩, by show T = _; rw [← HT.out]; exact (tapp_nil 0 l).symm, by decide, Nat.le_refl _⟩
  case round =>
    obtain ⟨acc, rest, off1, hrd, htx, HTT, hacc, hrl⟩ := hrel
    have HRD := Lib.hid hrd
    have HTX := Lib.hid htx
    have hlen0 := hrd.len
    obtain ⟨A, cap, rfl⟩ := own_form htx.own
    clear hrd htx
    have hl32 : l.length ≤ 4294967296 := HL.out
    rcases rest with _ | ⟨c, r⟩
    · have he : T.1 = 3 := by rw [HTT.out]; exact tapp_err (by rw [txt_nil]) (by decide)
      have HE := Lib.hid he
      clear he
      go_wp2_with (first | (go_at_call 39; refine (HNN.out _ _ _ _ HRD.out).mono ?_; rintro e w' ⟨rfl, rfl⟩))
      exact ⟨rfl, HB.out 3 _ HE.out (by decide) HTX.out.gro⟩
    · rw [List.length_cons] at hrl
      have HRL := Lib.hid (show r.length ≤ 4294967296 by omega)
      have hcl : c < 256 := HRD.out.row.lt c (by simp)
      by_cases hc : c = 0
      · subst hc
        rcases r with _ | ⟨x, q⟩
        · have he : T.1 = 3 := by rw [HTT.out]; exact tapp_err (by rw [txt_01]) (by decide)
          have HE := Lib.hid he
          clear he hcl
          go_wp2_with (first | (go_at_call 39; refine (HNN.out _ _ _ _ HRD1.out).mono ?_; rintro e w2 ⟨rfl, rfl⟩) | (go_at_call 39; refine (HNC.out _ _ _ _ _ _ HRL.out HRD.out).mono ?_; rintro e w1 ⟨rfl, hrd1, hg1⟩; have HRD1 := Lib.hid hrd1; have HTX1 := Lib.hid (HTX.out.set hg1); clear hrd1 hg1))
          exact ⟨rfl, HB.out 3 _ HE.out (by decide) HTX1.out.gro⟩
        · have HRL2 := Lib.hid (show q.length ≤ 4294967296 by rw [List.length_cons] at hrl; omega)
          have htt := HTT.out
          rw [txt_0] at htt
          have hxl : x < 256 := HRD.out.row.lt x (by simp)
          by_cases h1 : x = 1
          · subst h1
            rw [if_pos rfl] at htt
            have he : T = (0, acc, q) := by rw [htt]; unfold tapp; rw [if_pos rfl, List.append_nil]
            have HE := Lib.hid he
            clear htt he hxl hcl
            go_wp2_with (first | (go_at_call 39; refine (HNC.out _ _ _ _ _ _ HRL2.out HRD1.out).mono ?_; rintro e w2 ⟨rfl, hrd2, hg2⟩; have HRD2 := Lib.hid hrd2; have HTX2 := Lib.hid (HTX1.out.set hg2); have hstr := own_str HTX2.out.own; clear hrd2 hg2) | (go_at_call 39; refine (HNC.out _ _ _ _ _ _ HRL.out HRD.out).mono ?_; rintro e w1 ⟨rfl, hrd1, hg1⟩; have HRD1 := Lib.hid hrd1; have HTX1 := Lib.hid (HTX.out.set hg1); clear hrd1 hg1))
            exact HG.out _ _ _ _ HE.out HTX2.out.gro HRD2.out
          · rw [if_neg h1] at htt
            have x1 : ((x : Int) == 1) = false := by simp; omega
            have x2 : (x == 1) = false := by simpa using h1
            by_cases h2 : x = 255
            · subst h2
              rw [if_neg (by decide)] at htt
              by_cases h3 : acc.length = 200
              · rw [if_pos h3] at htt
                have he : T.1 = 1 := by rw [htt]; exact tapp_err rfl (by decide)
                have HE := Lib.hid he
                have hal : (acc.length : Int) = 200 := by omega
                clear htt he hxl hcl x1 x2 h1
                go_wp2_with (first | (go_at_call_of 40 true; refine (HMO.out _ _).mono ?_; rintro e w' ⟨rfl, rfl⟩) | (go_at_call 40; refine (HMN.out _ _).mono ?_; rintro e w' ⟨rfl, rfl⟩) | (go_at_call 39; refine (HNC.out _ _ _ _ _ _ HRL2.out HRD1.out).mono ?_; rintro e w2 ⟨rfl, hrd2, hg2⟩; have HRD2 := Lib.hid hrd2; have HTX2 := Lib.hid (HTX1.out.set hg2); clear hrd2 hg2) | (go_at_call 39; refine (HNC.out _ _ _ _ _ _ HRL.out HRD.out).mono ?_; rintro e w1 ⟨rfl, hrd1, hg1⟩; have HRD1 := Lib.hid hrd1; have HTX1 := Lib.hid (HTX.out.set hg1); clear hrd1 hg1))
                exact ⟨rfl, HB.out 1 _ HE.out (by decide) HTX2.out.gro⟩
              · rw [if_neg h3, tapp_cons] at htt
                have hal : (acc.length : Int) < 200 := by omega
                have HTN := Lib.hid (show T = tapp (acc ++ [0]) (txt (acc ++ [0]).length q) by rw [List.length_append, List.length_singleton]; exact htt)
                clear htt hxl hcl x1 x2 h1
                go_wp2_with (first | (go_at_call_of 40 true; refine (HMO.out _ _).mono ?_; rintro e w' ⟨rfl, rfl⟩) | (go_at_call 39; refine (HNC.out _ _ _ _ _ _ HRL2.out HRD1.out).mono ?_; rintro e w2 ⟨rfl, hrd2, hg2⟩; have HRD2 := Lib.hid hrd2; have HTX2 := Lib.hid (HTX1.out.set hg2); clear hrd2 hg2) | (go_at_call 39; refine (HNC.out _ _ _ _ _ _ HRL.out HRD.out).mono ?_; rintro e w1 ⟨rfl, hrd1, hg1⟩; have HRD1 := Lib.hid hrd1; have HTX1 := Lib.hid (HTX.out.set hg1); clear hrd1 hg1) | (at_builtin; refine wp_pushN rfl _ _ rfl w.heap.size _ acc rfl (HTX2.out.alloc _).own ⟨w2.heap.size, 0, none⟩ 1 1 [0] rfl rfl (by decide) (news1' w2 _ _ rfl) (by omega) (HTX2.out.alloc _).gro.size ?_; intro v3 w3 hown3 hgrow3; have HTX3 := Lib.hid ((HTX2.out.alloc _).push hown3 hgrow3); have HRD3 := Lib.hid ((HRD2.out.below ((Below.refl _ _).alloc (Nat.le_refl _) _)).grown hgrow3 (fun _ => HTX2.out.ne b (HBL.out (by omega))) (HTX2.out.ne gr HTX2.out.lt)); clear hown3 hgrow3))
                go_roundw
                case rel => exact ⟨acc ++ [0], q, _, HRD3.out, HTX3.out, HTN.out, by rw [List.length_append, List.length_singleton]; omega, by rw [List.length_cons] at hrl; omega⟩
                case measure => rw [HRD3.out.len, hlen0]; simp only [List.length_cons]; omega
            · rw [if_pos h2] at htt
              have he : T.1 = 2 := by rw [htt]; exact tapp_err rfl (by decide)
              have x3 : ((x : Int) == 255) = false := by simp; omega
              have x4 : (x == 255) = false := by simpa using h2
              have HE := Lib.hid he
              clear htt he hxl hcl
              go_wp2_with (first | (go_at_call 40; refine (HMN.out _ _).mono ?_; rintro e w' ⟨rfl, rfl⟩) | (go_at_call 39; refine (HNC.out _ _ _ _ _ _ HRL2.out HRD1.out).mono ?_; rintro e w2 ⟨rfl, hrd2, hg2⟩; have HRD2 := Lib.hid hrd2; have HTX2 := Lib.hid (HTX1.out.set hg2); clear hrd2 hg2) | (go_at_call 39; refine (HNC.out _ _ _ _ _ _ HRL.out HRD.out).mono ?_; rintro e w1 ⟨rfl, hrd1, hg1⟩; have HRD1 := Lib.hid hrd1; have HTX1 := Lib.hid (HTX.out.set hg1); clear hrd1 hg1))
              exact ⟨rfl, HB.out 2 _ HE.out (by decide) HTX2.out.gro⟩
      · have htt := HTT.out
        rw [txt_c hc] at htt
        have x1 : ((c : Int) == 0) = false := by simp; omega
        have x2 : (c == 0) = false := by simpa using hc
        by_cases h3 : acc.length = 200
        · rw [if_pos h3] at htt
          have he : T.1 = 1 := by rw [htt]; exact tapp_err rfl (by decide)
          have HE := Lib.hid he
          have hal : (acc.length : Int) = 200 := by omega
          clear htt he hcl
          go_wp2_with (first | (go_at_call 40; refine (HMN.out _ _).mono ?_; rintro e w' ⟨rfl, rfl⟩) | (go_at_call 39; refine (HNC.out _ _ _ _ _ _ HRL.out HRD.out).mono ?_; rintro e w1 ⟨rfl, hrd1, hg1⟩; have HRD1 := Lib.hid hrd1; have HTX1 := Lib.hid (HTX.out.set hg1); clear hrd1 hg1))
          exact ⟨rfl, HB.out 1 _ HE.out (by decide) HTX1.out.gro⟩
        · rw [if_neg h3, tapp_cons] at htt
          have hal : (acc.length : Int) < 200 := by omega
          have HTN := Lib.hid (show T = tapp (acc ++ [c]) (txt (acc ++ [c]).length r) by rw [List.length_append, List.length_singleton]; exact htt)
          clear htt
          go_wp2_with (first | (go_at_call 40; refine (HMO.out _ _).mono ?_; rintro e w' ⟨rfl, rfl⟩) | (go_at_call 39; refine (HNC.out _ _ _ _ _ _ HRL.out HRD.out).mono ?_; rintro e w2 ⟨rfl, hrd2, hg2⟩; have HRD2 := Lib.hid hrd2; have HTX2 := Lib.hid (HTX.out.set hg2); clear hrd2 hg2) | (at_builtin; refine wp_pushN rfl _ _ rfl w.heap.size _ acc rfl (HTX2.out.alloc _).own ⟨w2.heap.size, 0, none⟩ 1 1 [c] rfl rfl (by decide) (news1' w2 _ _ rfl) (by omega) (HTX2.out.alloc _).gro.size ?_; intro v3 w3 hown3 hgrow3; have HTX3 := Lib.hid ((HTX2.out.alloc _).push hown3 hgrow3); have HRD3 := Lib.hid ((HRD2.out.below ((Below.refl _ _).alloc (Nat.le_refl _) _)).grown hgrow3 (fun _ => HTX2.out.ne b (HBL.out (by omega))) (HTX2.out.ne gr HTX2.out.lt)); clear hown3 hgrow3))
          go_roundw
          case rel => exact ⟨acc ++ [c], r, _, HRD3.out, HTX3.out, HTN.out, by rw [List.length_append, List.length_singleton]; omega, by omega⟩
          case measure => rw [HRD3.out.len, hlen0]; simp only [List.length_cons]; omega

end Go.Proofs.Ytpknoclnmhomiaa
