/-
  refill of a child that is too small: a contract over the translation.
  Conditions: the node lies in memory.
-/
import Derived.Test.YtncganfjbalkgaaTr7
namespace Go.Proofs.Ytncganfjbalkgaa
open Go.RowKit Go.Joins Go.ChangeShapes Go.WideShapes
set_option linter.unusedVariables false

theorem heads {A C D : List Kd} {c : Kd} {k : Option (List Nat)} (h : ((A ++ c :: C).head?.map Kd.k) = k) {c' : Kd} (e : c'.key = c.key) : ((A ++ c' :: D).head?.map Kd.k) = k := by
  cases A with
  | nil =>
    rw [← h]
    show some (sl c'.key) = some (sl c.key)
    rw [e]
  | cons a r => exact h

set_option maxHeartbeats 4000000 in
set_option maxRecDepth 100000 in
theorem refill_two (B d : Nat) (w : World) (g : Nat) (v : Value) (G : Bl) (A C : List Kd) (c1 c2 : Kd) (h : Nod B d w g v G (A ++ c1 :: c2 :: C)) (hs1 : 3 ≤ c1.ps.length) (hs2 : 3 ≤ c2.ps.length) (hs3 : 4 ≤ c1.ps.length + c2.ps.length - 3) (hs4 : c1.ps.length + c2.ps.length ≤ 15) (hsA : Sz A) (hsC : Sz C) (hn : (A ++ c1 :: c2 :: C).length ≤ 2147483648)
    (i : Int) (hi : i = (A.length : Nat) + 1 ∨ (i = 0 ∧ A.length = 0)) :
    Calls Try.prog 46 #[.pointer (some ⟨g, 0, none⟩), .int .i64 i] w fun e w' => ∃ v' G' ks, e = .returned (.tuple #[]) ∧ Nod B d w' g v' G' ks ∧ Sz ks ∧ ks.flatMap Kd.es = (A ++ c1 :: c2 :: C).flatMap Kd.es ∧ ks.head?.map Kd.k = (A ++ c1 :: c2 :: C).head?.map Kd.k ∧
      A.length + C.length + 1 ≤ ks.length ∧ ks.length ≤ A.length + C.length + 2 ∧ Frm (Fo g v G) w w' ∧ New w (Fo g v G) (Fo g v' G') := by
  generalize hP : (fun (e : Ending) (w' : World) => ∃ v' G' ks, e = .returned (.tuple #[]) ∧ Nod B d w' g v' G' ks ∧ Sz ks ∧ ks.flatMap Kd.es = (A ++ c1 :: c2 :: C).flatMap Kd.es ∧ ks.head?.map Kd.k = (A ++ c1 :: c2 :: C).head?.map Kd.k ∧
      A.length + C.length + 1 ≤ ks.length ∧ ks.length ≤ A.length + C.length + 2 ∧ Frm (Fo g v G) w w' ∧ New w (Fo g v G) (Fo g v' G')) = P
  have hn2 : A.length + C.length + 2 ≤ 2147483648 := by simp at hn; omega
  have hlt : g < w.heap.size := h.nd.lt
  have HJ := Lib.hid (join_any B d w g v G A C c1 c2 h (by intro e; rw [e] at hs1; simp at hs1) (by intro e; rw [e] at hs2; simp at hs2) (by omega) hn)
  obtain ⟨a, ea⟩ : ∃ n, A.length = n := ⟨_, rfl⟩
  rw [ea] at HJ hi hn2
  have HA := Lib.hid ea
  have HP := Lib.hid hP
  have H := Lib.hid h
  obtain ⟨n, en⟩ : ∃ n, c1.ps.length + c2.ps.length = n := ⟨_, rfl⟩
  have EN := Lib.hid en
  have hn7 : 7 ≤ n := by omega
  have hn15 : n ≤ 15 := by omega
  obtain ⟨b, eb⟩ : ∃ n, C.length = n := ⟨_, rfl⟩
  rw [eb] at hn2
  have HB9 := Lib.hid eb
  have SA := Lib.hid hsA
  have SC := Lib.hid hsC
  have hl0 : (a : Int) + 1 - 1 = (a : Int) := by omega
  clear hP h ea en eb hs1 hs2 hs3 hs4 hsA hsC hn
  have key : ∀ i : Int, (i = (a : Int) + 1 ∨ (i = 0 ∧ a = 0)) → Calls Try.prog 46 #[.pointer (some ⟨g, 0, none⟩), .int .i64 i] w P := by
    intro i hi
    have go : ∀ (w1 : World) (v1 : Value) (G1 : Bl) (c : Kd), Nod B d w1 g v1 G1 (A ++ c :: C) → c.key = c1.key → c.ps = c1.ps ++ c2.ps → c.es = c1.es ++ c2.es → Frm (Fo g v G) w w1 → New w (Fo g v G) (Fo g v1 G1) →
        (8 ≤ n → Calls Try.prog 33 #[.pointer (some ⟨g, 0, none⟩), .int .i64 (a : Int)] w1 fun e w' => e = .returned (.tuple #[]) ∧ P (.returned (.tuple #[])) w') ∧
        (n < 8 → P (.returned (.tuple #[])) w1) ∧
        ∃ gb cap gc cac, 0 < a + 1 + b ∧ w1.cell? ⟨g, 0, none⟩ = some (.slice (some ⟨gb, 0, none⟩) (a + 1 + b) cap) ∧ w1.cell? ⟨gb, a * 3 + 2, none⟩ = some (.pointer (some ⟨c.g, 0, none⟩)) ∧ w1.cell? ⟨c.g, 0, none⟩ = some (.slice (some ⟨gc, 0, none⟩) n cac) := by
      intro w1 v1 G1 c nod ck cp ce f1 nw1
      have hcl : c.ps.length = n := by rw [cp, List.length_append]; exact EN.out
      have hfe : (A ++ c :: C).flatMap Kd.es = (A ++ c1 :: c2 :: C).flatMap Kd.es := by simp [ce]
      refine ⟨fun h8 => ?_, fun h8 => ?_, ?_⟩
      · have := halve_any B d w1 g v1 G1 A C c nod (by omega) (by omega) (by simp; have := HA.out; have := HB9.out; omega)
        rw [HA.out] at this
        refine this.mono ?_
        rintro e w' ⟨v', G', x1, x2, rfl, nod', k1, k2, k3, k4, f2, nw2⟩
        refine ⟨rfl, ?_⟩
        rw [← HP.out]
        refine ⟨v', G', _, rfl, nod', ?_, ?_, ?_, ?_, ?_, f1.trans f2 nw1, nw1.trans nw2 f1.size⟩
        · intro x hx
          rcases List.mem_append.1 hx with hx | hx
          · exact SA.out x hx
          · rcases List.mem_cons.1 hx with rfl | hx
            · omega
            · rcases List.mem_cons.1 hx with rfl | hx
              · omega
              · exact SC.out x hx
        · rw [← hfe]
          simp [← k4]
        · exact heads rfl (k1.trans ck)
        · simp; omega
        · simp; omega
      · rw [← HP.out]
        refine ⟨v1, G1, _, rfl, nod, ?_, hfe, heads rfl ck, by simp; omega, by simp; omega, f1, nw1⟩
        intro x hx
        rcases List.mem_append.1 hx with hx | hx
        · exact SA.out x hx
        · rcases List.mem_cons.1 hx with rfl | hx
          · omega
          · exact SC.out x hx
      · have hpv : ((A ++ c :: C).map Kd.pv)[a]? = some c.pv := by rw [← HA.out, List.getElem?_map, List.getElem?_append_right (Nat.le_refl _), Nat.sub_self]; rfl
        obtain ⟨vc, Gc, hc⟩ := nod.kids.sub c (List.mem_append_right _ (List.mem_cons_self ..))
        obtain ⟨gb, cap, rfl, k1, k2, -, -, d1, -⟩ := nod.nd.own.at hpv
        obtain ⟨gc, cac, rfl, -⟩ := hc.nd.own.at (List.getElem?_eq_getElem (show 0 < c.ps.length by omega))
        obtain ⟨c0, -⟩ := nod.nd.cell
        obtain ⟨x0, -⟩ := hc.nd.cell
        rw [show ((A ++ c :: C).map Kd.pv).length = a + 1 + b by simp; have := HA.out; have := HB9.out; omega] at c0
        rw [hcl] at x0
        exact ⟨gb, cap, gc, cac, by omega, c0, d1, x0⟩
    have GO := Lib.hid go
    clear go
    rcases hi with rfl | ⟨rfl, h0⟩
    · have hk0 : (a : Int) < (a : Int) + 1 + (b : Int) := by omega
      go_enter Try.func46, Try.ntmps46
      go_upto_region 2 with (go_at_call 53; refine HJ.out.mono ?_; rintro e w1 ⟨v1, G1, c, rfl, nod, ck, cp, ce, f1, nw1⟩; obtain ⟨gh, gl, gb, cap, gc, cac, z0, z1, z2, z3⟩ := GO.out _ _ _ _ nod ck cp ce f1 nw1; have GH := Lib.hid gh; have GL := Lib.hid gl; clear nod ck cp ce f1 nw1 gh gl)
      by_cases h8 : 8 ≤ n
      · have h8i : (8 : Int) ≤ (n : Int) := by omega
        go_wp2_with (go_at_call 33; refine (GH.out h8).mono ?_; rintro e w2 ⟨rfl, hp2⟩; have HX := Lib.hid hp2; clear hp2)
        exact bodyPost_ret (v := .tuple #[]) (by simp [results, Try.results46, go_sem]) rfl HX.out
      · have h8i : decide ((8 : Int) ≤ (n : Int)) = false := by simp; omega
        go_wp2_with fail
        exact bodyPost_ret (v := .tuple #[]) (by simp [results, Try.results46, go_sem]) rfl (GL.out (by omega))
    · have h0' := h0
      have hk0 : (0 : Int) < (0 : Int) + 1 + (b : Int) := by omega
      subst h0
      go_enter Try.func46, Try.ntmps46
      go_upto_region 2 with (go_at_call 53; refine HJ.out.mono ?_; rintro e w1 ⟨v1, G1, c, rfl, nod, ck, cp, ce, f1, nw1⟩; obtain ⟨gh, gl, gb, cap, gc, cac, z0, z1, z2, z3⟩ := GO.out _ _ _ _ nod ck cp ce f1 nw1; have GH := Lib.hid gh; have GL := Lib.hid gl; clear nod ck cp ce f1 nw1 gh gl)
      by_cases h8 : 8 ≤ n
      · have h8i : (8 : Int) ≤ (n : Int) := by omega
        go_wp2_with (go_at_call 33; refine (GH.out h8).mono ?_; rintro e w2 ⟨rfl, hp2⟩; have HX := Lib.hid hp2; clear hp2)
        exact bodyPost_ret (v := .tuple #[]) (by simp [results, Try.results46, go_sem]) rfl HX.out
      · have h8i : decide ((8 : Int) ≤ (n : Int)) = false := by simp; omega
        go_wp2_with fail
        exact bodyPost_ret (v := .tuple #[]) (by simp [results, Try.results46, go_sem]) rfl (GL.out (by omega))
  exact key i hi

end Go.Proofs.Ytncganfjbalkgaa
