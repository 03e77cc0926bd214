/-
  Texts of mine put together, in build order.
  Conditions: as each declaration says.
-/
import Derived.Test.YtkffomfbnbcgaaaGreatDoorZp9
namespace Go.Proofs.YtkffomfbnbcgaaaGreatDoor
set_option maxRecDepth 100000
open Go.RowKit Go.Joins Go.ChangeShapes Go.WideShapes
set_option linter.unusedVariables false
set_option linter.unusedSimpArgs false

set_option maxHeartbeats 16000000 in
theorem same_l4 {K K' : Bl} {wb : World} {g h : Nat} (x y : XSt) (he : x.er = y.er) (hm : XSt.Mem K wb x) (hm' : XSt.Mem K' wb y) (hX : Bx wb g x.enc.toArray 34) (hY : Bx wb h y.enc.toArray 34)
    (J : Act → World → Prop) (Q' : Exit → Act → World → Prop) (w0 : World) (hb0 : Below wb.heap.size wb w0) (s0 s1 s4 s5 s6 s7 s9 s10 s11 s12 s13 s14 s15 s16 s17 s18 s19 s20 s21 s22 s23 s24 s25 s26 s27 s28 s29 s30 s31 s32 s33 s34 s35 s36 s37 s38 s39 s40 s41 s42 s43 s44 s45 s46 s47 s48 s49 s50 s51 s52 s53 s54 s55 s56 s57 s58 s59 s60 s61 s62 s63 s64 s65 s66 s67 s68 s69 s70 s71 s72 s73 s74 s75 s76 s77 s78 s79 s80 s81 s82 s83 s84 s85 s86 s87 s88 s89 s90 s91 s92 s93 s94 s95 s96 s97 s98 s99 s100 s101 s102 s103 s104 s105 s106 s107 s108 s109 s110 s111 s112 s113 s114 s115 s116 s117 s118 s119 s120 s121 s122 s123 s124 s125 s126 s127 s128 s129 s130 s131 s132 s133 s134 s135 s136 s137 s138 s139 s140 s141 s142 s143 s144 s145 s146 s147 s148 s149 s150 s151 s152 s153 s154 s155 s156 s157 s158 s159 s160 s161 s162 s163 s164 s165 s166 s167 s168 s169 s170 s171 s172 s173 s174 s175 s176 s177 s178 s179 s180 s181 s182 s183 s184 s185 s186 s187 s188 s189 s190 s191 s192 s193 s194 s195 s196 s197 s198 s199 s200 s201 s202 s203 s204 s205 s206 s207 s208 s209 s210 s211 s212 s213 s214 s215 s216 s217 s218 s219 s220 s221 s222 s223 s224 s225 s226 s227 s228 s229 s230 s231 s232 s233 s234 s235 s236 s237 s238 s239 s240 s241 s242 s243 s244 s245 s246 s247 s248 s249 s250 s251 : Value)
    (hk : ∀ (t4 t8 t162 t163 t164 t165 t166 t167 t168 t169 t170 t171 t172 t173 t174 t175 t176 t177 t178 t179 t180 t181 t182 t183 t184 t185 t186 t187 t188 t189 t190 t191 t192 t193 t194 t195 t196 t197 : Value) (w' : World), Below wb.heap.size wb w' → J ⟨List.toArray (s0 :: s1 :: .pointer (some ⟨g, 0, none⟩) :: .pointer (some ⟨h, 0, none⟩) :: t4 :: s5 :: s6 :: s7 :: t8 :: s9 :: s10 :: s11 :: s12 :: s13 :: s14 :: s15 :: s16 :: s17 :: s18 :: s19 :: s20 :: s21 :: s22 :: s23 :: s24 :: s25 :: s26 :: s27 :: s28 :: s29 :: s30 :: s31 :: s32 :: s33 :: s34 :: s35 :: s36 :: s37 :: s38 :: s39 :: s40 :: s41 :: s42 :: s43 :: s44 :: s45 :: s46 :: s47 :: s48 :: s49 :: s50 :: s51 :: s52 :: s53 :: s54 :: s55 :: s56 :: s57 :: s58 :: s59 :: s60 :: s61 :: s62 :: s63 :: s64 :: s65 :: s66 :: s67 :: s68 :: s69 :: s70 :: s71 :: s72 :: s73 :: s74 :: s75 :: s76 :: s77 :: s78 :: s79 :: s80 :: s81 :: s82 :: s83 :: s84 :: s85 :: s86 :: s87 :: s88 :: s89 :: s90 :: s91 :: s92 :: s93 :: s94 :: s95 :: s96 :: s97 :: s98 :: s99 :: s100 :: s101 :: s102 :: s103 :: s104 :: s105 :: s106 :: s107 :: s108 :: s109 :: s110 :: s111 :: s112 :: s113 :: s114 :: s115 :: s116 :: s117 :: s118 :: s119 :: s120 :: s121 :: s122 :: s123 :: s124 :: s125 :: s126 :: s127 :: s128 :: s129 :: s130 :: s131 :: s132 :: s133 :: s134 :: s135 :: s136 :: s137 :: s138 :: s139 :: s140 :: s141 :: s142 :: s143 :: s144 :: s145 :: s146 :: s147 :: s148 :: s149 :: s150 :: s151 :: s152 :: s153 :: s154 :: s155 :: s156 :: s157 :: s158 :: s159 :: s160 :: s161 :: t162 :: t163 :: t164 :: t165 :: t166 :: t167 :: t168 :: t169 :: t170 :: t171 :: t172 :: t173 :: t174 :: t175 :: t176 :: t177 :: t178 :: t179 :: t180 :: t181 :: t182 :: t183 :: t184 :: t185 :: t186 :: t187 :: t188 :: t189 :: t190 :: t191 :: t192 :: t193 :: t194 :: t195 :: t196 :: t197 :: s198 :: s199 :: s200 :: s201 :: s202 :: s203 :: s204 :: s205 :: s206 :: s207 :: s208 :: s209 :: s210 :: s211 :: s212 :: s213 :: s214 :: s215 :: s216 :: s217 :: s218 :: s219 :: s220 :: s221 :: s222 :: s223 :: s224 :: s225 :: s226 :: s227 :: s228 :: s229 :: s230 :: s231 :: s232 :: s233 :: s234 :: s235 :: s236 :: s237 :: s238 :: s239 :: s240 :: s241 :: s242 :: s243 :: s244 :: s245 :: s246 :: s247 :: s248 :: s249 :: s250 :: s251 :: []), []⟩ w') :
    Code.wp Tryz.prog (sameLoop 4) (Exit.inBlock 6 (Exit.then J Q')) ⟨List.toArray (s0 :: s1 :: .pointer (some ⟨g, 0, none⟩) :: .pointer (some ⟨h, 0, none⟩) :: s4 :: s5 :: s6 :: s7 :: .int .i64 0 :: s9 :: s10 :: s11 :: s12 :: s13 :: s14 :: s15 :: s16 :: s17 :: s18 :: s19 :: s20 :: s21 :: s22 :: s23 :: s24 :: s25 :: s26 :: s27 :: s28 :: s29 :: s30 :: s31 :: s32 :: s33 :: s34 :: s35 :: s36 :: s37 :: s38 :: s39 :: s40 :: s41 :: s42 :: s43 :: s44 :: s45 :: s46 :: s47 :: s48 :: s49 :: s50 :: s51 :: s52 :: s53 :: s54 :: s55 :: s56 :: s57 :: s58 :: s59 :: s60 :: s61 :: s62 :: s63 :: s64 :: s65 :: s66 :: s67 :: s68 :: s69 :: s70 :: s71 :: s72 :: s73 :: s74 :: s75 :: s76 :: s77 :: s78 :: s79 :: s80 :: s81 :: s82 :: s83 :: s84 :: s85 :: s86 :: s87 :: s88 :: s89 :: s90 :: s91 :: s92 :: s93 :: s94 :: s95 :: s96 :: s97 :: s98 :: s99 :: s100 :: s101 :: s102 :: s103 :: s104 :: s105 :: s106 :: s107 :: s108 :: s109 :: s110 :: s111 :: s112 :: s113 :: s114 :: s115 :: s116 :: s117 :: s118 :: s119 :: s120 :: s121 :: s122 :: s123 :: s124 :: s125 :: s126 :: s127 :: s128 :: s129 :: s130 :: s131 :: s132 :: s133 :: s134 :: s135 :: s136 :: s137 :: s138 :: s139 :: s140 :: s141 :: s142 :: s143 :: s144 :: s145 :: s146 :: s147 :: s148 :: s149 :: s150 :: s151 :: s152 :: s153 :: s154 :: s155 :: s156 :: s157 :: s158 :: s159 :: s160 :: s161 :: s162 :: s163 :: s164 :: s165 :: s166 :: s167 :: s168 :: s169 :: s170 :: s171 :: s172 :: s173 :: s174 :: s175 :: s176 :: s177 :: s178 :: s179 :: s180 :: s181 :: s182 :: s183 :: s184 :: s185 :: s186 :: s187 :: s188 :: s189 :: s190 :: s191 :: s192 :: s193 :: s194 :: s195 :: s196 :: s197 :: s198 :: s199 :: s200 :: s201 :: s202 :: s203 :: s204 :: s205 :: s206 :: s207 :: s208 :: s209 :: s210 :: s211 :: s212 :: s213 :: s214 :: s215 :: s216 :: s217 :: s218 :: s219 :: s220 :: s221 :: s222 :: s223 :: s224 :: s225 :: s226 :: s227 :: s228 :: s229 :: s230 :: s231 :: s232 :: s233 :: s234 :: s235 :: s236 :: s237 :: s238 :: s239 :: s240 :: s241 :: s242 :: s243 :: s244 :: s245 :: s246 :: s247 :: s248 :: s249 :: s250 :: s251 :: []), []⟩ w0 := by
  have hl : x.items.xs.map itk.er = y.items.xs.map itk.er := congrArg Stm.items he
  obtain ⟨v0, v1, v2, v3, v4, v5, v6, v7, v8⟩ := XSt.enc_b x
  obtain ⟨v0', v1', v2', v3', v4', v5', v6', v7', v8'⟩ := XSt.enc_b y
  have c7 := hX.cell v7
  have d7 := hY.cell v7'
  simp only [XL.val] at c7 d7
  obtain ⟨n7, hl7⟩ : ∃ n, x.items.xs.length = n := ⟨_, rfl⟩
  have hm7 : y.items.xs.length = n7 := by have := congrArg List.length hl; simp at this; omega
  rw [hl7] at c7
  rw [hm7] at d7
  have hbn : n7 ≤ maxLen := by rw [← hl7]; exact Nat.le_trans hm.items.1 hm.items.2.1
  have HM := Lib.hid (And.intro (And.intro hl hl7) (And.intro hm.items hm'.items))
  have HC := Lib.hid (And.intro c7 d7)
  have HS := Lib.hid (And.intro hX.lt hY.lt)
  have HK := Lib.hid hk
  have HWW := Lib.hid hb0
  clear v0 v1 v2 v3 v4 v5 v6 v7 v8 v0' v1' v2' v3' v4' v5' v6' v7' v8' c7 d7 hl7 hm7 hm hm' hX hY he hl hk hb0
  obtain ⟨oa, hoa⟩ : ∃ oa, x.items.a = oa := ⟨_, rfl⟩
  obtain ⟨oc, hoc⟩ : ∃ oc, x.items.cap = oc := ⟨_, rfl⟩
  obtain ⟨ya, hya⟩ : ∃ ya, y.items.a = ya := ⟨_, rfl⟩
  obtain ⟨yc, hyc⟩ : ∃ yc, y.items.cap = yc := ⟨_, rfl⟩
  have HA := Lib.hid (And.intro hoa hya)
  rw [hoa, hoc, hya, hyc] at HC
  clear hoa hoc hya hyc
  conv => arg 2; whnf
  go_loopw [8] (fun i wr => ∃ (k : Nat), k ≤ n7 ∧ i = .int .i64 (k : Int) ∧ Hid (Below wb.heap.size wb wr)) (fun i _ => n7 - (intOf i).toNat)
  case atStart => exact ⟨0, Nat.zero_le _, rfl, HWW⟩
  case round =>
   clear HWW
   obtain ⟨k, hk, rfl, HW⟩ := hrel
   have z1 := (HW.out.cell (p := ⟨g, 7, none⟩) HS.out.1).trans HC.out.1
   have z2 := (HW.out.cell (p := ⟨h, 7, none⟩) HS.out.2).trans HC.out.2
   by_cases c : k < n7
   · have c1 : (k : Int) < (n7 : Int) := by omega
     obtain ⟨⟨xe, d⟩, ⟨ye, d'⟩, hx, hy, hxy⟩ := two_at HM.out.1.1 (k := k) (by rw [HM.out.1.2]; exact c)
     have hdd : d = d' := congrArg Ite.name hxy
     have hee : xe.er = ye.er := congrArg Ite.e hxy
     subst hdd
     obtain ⟨b, o, eb, -, hb, hcell, hmx⟩ := XL.Mem.at (HM.out.2.1.below HW.out) hx
     obtain ⟨b', o', eb', -, hb', hcell', hmy⟩ := XL.Mem.at (HM.out.2.2.below HW.out) hy
     obtain rfl := HA.out.1.symm.trans eb
     obtain rfl := HA.out.2.symm.trans eb'
     have HCA := Lib.hid (fun (wv : World) (hbv : Below wr.heap.size wr wv) => same_any (w := wv) xe ye hee (XE.Mem.below hmx hbv) (XE.Mem.below hmy hbv))
     obtain ⟨op3, kind3, num3, scale3, text3, qual3, a3, cap3, args3⟩ := xe
     obtain ⟨op4, kind4, num4, scale4, text4, qual4, a4, cap4, args4⟩ := ye
     have hcl : ∀ j u, (itk.enc ((XE.mk op3 kind3 num3 scale3 text3 qual3 a3 cap3 args3), d))[j]? = some u → wr.cell? ⟨b, o + k * 8 + j, none⟩ = some u := hcell
     have hcl' : ∀ j u, (itk.enc ((XE.mk op4 kind4 num4 scale4 text4 qual4 a4 cap4 args4), d))[j]? = some u → wr.cell? ⟨b', o' + k * 8 + j, none⟩ = some u := hcell'
     have q0 := hcl 0 _ rfl
     have q1 := hcl 1 _ rfl
     have q2 := hcl 2 _ rfl
     have q3 := hcl 3 _ rfl
     have q4 := hcl 4 _ rfl
     have q5 := hcl 5 _ rfl
     have q6 := hcl 6 _ rfl
     have q7 := hcl 7 _ rfl
     have p0 := hcl' 0 _ rfl
     have p1 := hcl' 1 _ rfl
     have p2 := hcl' 2 _ rfl
     have p3 := hcl' 3 _ rfl
     have p4 := hcl' 4 _ rfl
     have p5 := hcl' 5 _ rfl
     have p6 := hcl' 6 _ rfl
     have p7 := hcl' 7 _ rfl
     rw [Nat.add_zero] at q0 p0
     have hwk : wrap64 ((k : Int) + 1) = ((k + 1 : Nat) : Int) := by unfold wrap64 maxLen at *; omega
     have HK2 := Lib.hid (fun (w0 : World) (hb0 : Below wr.heap.size wr w0) => show Below wr.heap.size wr w0 ∧ w0.cell? ⟨g, 7, none⟩ = some (.slice (some ⟨b, o, none⟩) n7 oc) ∧ w0.cell? ⟨h, 7, none⟩ = some (.slice (some ⟨b', o', none⟩) n7 yc) ∧ w0.cell? ⟨b, o + k * 8, none⟩ = some (.int .i64 op3) ∧ w0.cell? ⟨b, o + k * 8 + 1, none⟩ = some (.slice a3 args3.length cap3) ∧ w0.cell? ⟨b, o + k * 8 + 2, none⟩ = some (.int .i64 kind3) ∧ w0.cell? ⟨b, o + k * 8 + 3, none⟩ = some (.int .i64 num3) ∧ w0.cell? ⟨b, o + k * 8 + 4, none⟩ = some (.int .i64 scale3) ∧ w0.cell? ⟨b, o + k * 8 + 5, none⟩ = some (.string text3) ∧ w0.cell? ⟨b, o + k * 8 + 6, none⟩ = some (.string qual3) ∧ w0.cell? ⟨b, o + k * 8 + 7, none⟩ = some (.string (strB d)) ∧ w0.cell? ⟨b', o' + k * 8, none⟩ = some (.int .i64 op4) ∧ w0.cell? ⟨b', o' + k * 8 + 1, none⟩ = some (.slice a4 args4.length cap4) ∧ w0.cell? ⟨b', o' + k * 8 + 2, none⟩ = some (.int .i64 kind4) ∧ w0.cell? ⟨b', o' + k * 8 + 3, none⟩ = some (.int .i64 num4) ∧ w0.cell? ⟨b', o' + k * 8 + 4, none⟩ = some (.int .i64 scale4) ∧ w0.cell? ⟨b', o' + k * 8 + 5, none⟩ = some (.string text4) ∧ w0.cell? ⟨b', o' + k * 8 + 6, none⟩ = some (.string qual4) ∧ w0.cell? ⟨b', o' + k * 8 + 7, none⟩ = some (.string (strB d)) from ⟨hb0, (hb0.cell (p := ⟨g, 7, none⟩) (Nat.lt_of_lt_of_le HS.out.1 HW.out.size)).trans z1, (hb0.cell (p := ⟨h, 7, none⟩) (Nat.lt_of_lt_of_le HS.out.2 HW.out.size)).trans z2, (hb0.cell (by exact hb)).trans q0, (hb0.cell (by exact hb)).trans q1, (hb0.cell (by exact hb)).trans q2, (hb0.cell (by exact hb)).trans q3, (hb0.cell (by exact hb)).trans q4, (hb0.cell (by exact hb)).trans q5, (hb0.cell (by exact hb)).trans q6, (hb0.cell (by exact hb)).trans q7, (hb0.cell (by exact hb')).trans p0, (hb0.cell (by exact hb')).trans p1, (hb0.cell (by exact hb')).trans p2, (hb0.cell (by exact hb')).trans p3, (hb0.cell (by exact hb')).trans p4, (hb0.cell (by exact hb')).trans p5, (hb0.cell (by exact hb')).trans p6, (hb0.cell (by exact hb')).trans p7⟩)
     simp only [XE.val] at HCA
     clear hx hy hcell hcell' hcl hcl' hmx hmy hee hxy eb eb'
     go_wp2_with fail
     go_region_held3 (fun w0 => Below wr.heap.size wr w0 ∧ w0.cell? ⟨g, 7, none⟩ = some (.slice (some ⟨b, o, none⟩) n7 oc) ∧ w0.cell? ⟨h, 7, none⟩ = some (.slice (some ⟨b', o', none⟩) n7 yc) ∧ w0.cell? ⟨b, o + k * 8, none⟩ = some (.int .i64 op3) ∧ w0.cell? ⟨b, o + k * 8 + 1, none⟩ = some (.slice a3 args3.length cap3) ∧ w0.cell? ⟨b, o + k * 8 + 2, none⟩ = some (.int .i64 kind3) ∧ w0.cell? ⟨b, o + k * 8 + 3, none⟩ = some (.int .i64 num3) ∧ w0.cell? ⟨b, o + k * 8 + 4, none⟩ = some (.int .i64 scale3) ∧ w0.cell? ⟨b, o + k * 8 + 5, none⟩ = some (.string text3) ∧ w0.cell? ⟨b, o + k * 8 + 6, none⟩ = some (.string qual3) ∧ w0.cell? ⟨b, o + k * 8 + 7, none⟩ = some (.string (strB d)) ∧ w0.cell? ⟨b', o' + k * 8, none⟩ = some (.int .i64 op4) ∧ w0.cell? ⟨b', o' + k * 8 + 1, none⟩ = some (.slice a4 args4.length cap4) ∧ w0.cell? ⟨b', o' + k * 8 + 2, none⟩ = some (.int .i64 kind4) ∧ w0.cell? ⟨b', o' + k * 8 + 3, none⟩ = some (.int .i64 num4) ∧ w0.cell? ⟨b', o' + k * 8 + 4, none⟩ = some (.int .i64 scale4) ∧ w0.cell? ⟨b', o' + k * 8 + 5, none⟩ = some (.string text4) ∧ w0.cell? ⟨b', o' + k * 8 + 6, none⟩ = some (.string qual4) ∧ w0.cell? ⟨b', o' + k * 8 + 7, none⟩ = some (.string (strB d)))
       (first | exact HK2.out _ (Below.refl _ _) | exact HK2.out _ (Below.refl _ _).drew | exact HK2.out _ hbx)
       (first | (go_at_call 21; refine (HCA.out _ (And.left (by assumption))).mono ?_; rintro e w1 ⟨rfl, hbx0⟩; have hbx : Below wr.heap.size wr w1 := clq (by assumption) hbx0))
     all_goals
      have HWN := Lib.hid (HW.out.trans (hbx.mono HW.out.size))
      go_wp2_with fail
      refine ⟨⟨k + 1, Nat.succ_le_of_lt c, by rw [hwk], HWN⟩, ?_⟩
      rw [hwk]
      simp [intOf]
      omega
   · have c2 : decide ((k : Int) < (n7 : Int)) = false := by simp; omega
     obtain rfl : k = n7 := by omega
     clear HA HM HC z2
     go_wp2_with fail
     exact HK.out _ _ _ _ _ _ _ _ _ _ _ _ _ _ _ _ _ _ _ _ _ _ _ _ _ _ _ _ _ _ _ _ _ _ _ _ _ _ wr HW.out

end Go.Proofs.YtkffomfbnbcgaaaGreatDoor

namespace Go.Proofs.YtkffomfbnbcgaaaGreatDoor
set_option maxRecDepth 100000
open Go.RowKit Go.Joins Go.ChangeShapes Go.WideShapes
set_option linter.unusedVariables false
set_option linter.unusedSimpArgs false

set_option maxHeartbeats 16000000 in
theorem same_l5 {K K' : Bl} {wb : World} {g h : Nat} (x y : XSt) (he : x.er = y.er) (hm : XSt.Mem K wb x) (hm' : XSt.Mem K' wb y) (hX : Bx wb g x.enc.toArray 34) (hY : Bx wb h y.enc.toArray 34)
    (J : Act → World → Prop) (Q' : Exit → Act → World → Prop) (w0 : World) (hb0 : Below wb.heap.size wb w0) (s0 s1 s4 s5 s6 s7 s8 s10 s11 s12 s13 s14 s15 s16 s17 s18 s19 s20 s21 s22 s23 s24 s25 s26 s27 s28 s29 s30 s31 s32 s33 s34 s35 s36 s37 s38 s39 s40 s41 s42 s43 s44 s45 s46 s47 s48 s49 s50 s51 s52 s53 s54 s55 s56 s57 s58 s59 s60 s61 s62 s63 s64 s65 s66 s67 s68 s69 s70 s71 s72 s73 s74 s75 s76 s77 s78 s79 s80 s81 s82 s83 s84 s85 s86 s87 s88 s89 s90 s91 s92 s93 s94 s95 s96 s97 s98 s99 s100 s101 s102 s103 s104 s105 s106 s107 s108 s109 s110 s111 s112 s113 s114 s115 s116 s117 s118 s119 s120 s121 s122 s123 s124 s125 s126 s127 s128 s129 s130 s131 s132 s133 s134 s135 s136 s137 s138 s139 s140 s141 s142 s143 s144 s145 s146 s147 s148 s149 s150 s151 s152 s153 s154 s155 s156 s157 s158 s159 s160 s161 s162 s163 s164 s165 s166 s167 s168 s169 s170 s171 s172 s173 s174 s175 s176 s177 s178 s179 s180 s181 s182 s183 s184 s185 s186 s187 s188 s189 s190 s191 s192 s193 s194 s195 s196 s197 s198 s199 s200 s201 s202 s203 s204 s205 s206 s207 s208 s209 s210 s211 s212 s213 s214 s215 s216 s217 s218 s219 s220 s221 s222 s223 s224 s225 s226 s227 s228 s229 s230 s231 s232 s233 s234 s235 s236 s237 s238 s239 s240 s241 s242 s243 s244 s245 s246 s247 s248 s249 s250 s251 : Value)
    (hk : ∀ (t4 t9 t198 t199 t200 t201 t202 t203 t204 t205 t206 t207 t208 t209 t210 t211 t212 t213 t214 t215 t216 t217 t218 t219 t220 t221 t222 t223 t224 t225 t226 t227 t228 t229 t230 t231 t232 t233 t234 t235 t236 t237 t238 t239 t240 t241 t242 t243 t244 t245 t246 t247 t248 : Value) (w' : World), Below wb.heap.size wb w' → J ⟨List.toArray (s0 :: s1 :: .pointer (some ⟨g, 0, none⟩) :: .pointer (some ⟨h, 0, none⟩) :: t4 :: s5 :: s6 :: s7 :: s8 :: t9 :: s10 :: s11 :: s12 :: s13 :: s14 :: s15 :: s16 :: s17 :: s18 :: s19 :: s20 :: s21 :: s22 :: s23 :: s24 :: s25 :: s26 :: s27 :: s28 :: s29 :: s30 :: s31 :: s32 :: s33 :: s34 :: s35 :: s36 :: s37 :: s38 :: s39 :: s40 :: s41 :: s42 :: s43 :: s44 :: s45 :: s46 :: s47 :: s48 :: s49 :: s50 :: s51 :: s52 :: s53 :: s54 :: s55 :: s56 :: s57 :: s58 :: s59 :: s60 :: s61 :: s62 :: s63 :: s64 :: s65 :: s66 :: s67 :: s68 :: s69 :: s70 :: s71 :: s72 :: s73 :: s74 :: s75 :: s76 :: s77 :: s78 :: s79 :: s80 :: s81 :: s82 :: s83 :: s84 :: s85 :: s86 :: s87 :: s88 :: s89 :: s90 :: s91 :: s92 :: s93 :: s94 :: s95 :: s96 :: s97 :: s98 :: s99 :: s100 :: s101 :: s102 :: s103 :: s104 :: s105 :: s106 :: s107 :: s108 :: s109 :: s110 :: s111 :: s112 :: s113 :: s114 :: s115 :: s116 :: s117 :: s118 :: s119 :: s120 :: s121 :: s122 :: s123 :: s124 :: s125 :: s126 :: s127 :: s128 :: s129 :: s130 :: s131 :: s132 :: s133 :: s134 :: s135 :: s136 :: s137 :: s138 :: s139 :: s140 :: s141 :: s142 :: s143 :: s144 :: s145 :: s146 :: s147 :: s148 :: s149 :: s150 :: s151 :: s152 :: s153 :: s154 :: s155 :: s156 :: s157 :: s158 :: s159 :: s160 :: s161 :: s162 :: s163 :: s164 :: s165 :: s166 :: s167 :: s168 :: s169 :: s170 :: s171 :: s172 :: s173 :: s174 :: s175 :: s176 :: s177 :: s178 :: s179 :: s180 :: s181 :: s182 :: s183 :: s184 :: s185 :: s186 :: s187 :: s188 :: s189 :: s190 :: s191 :: s192 :: s193 :: s194 :: s195 :: s196 :: s197 :: t198 :: t199 :: t200 :: t201 :: t202 :: t203 :: t204 :: t205 :: t206 :: t207 :: t208 :: t209 :: t210 :: t211 :: t212 :: t213 :: t214 :: t215 :: t216 :: t217 :: t218 :: t219 :: t220 :: t221 :: t222 :: t223 :: t224 :: t225 :: t226 :: t227 :: t228 :: t229 :: t230 :: t231 :: t232 :: t233 :: t234 :: t235 :: t236 :: t237 :: t238 :: t239 :: t240 :: t241 :: t242 :: t243 :: t244 :: t245 :: t246 :: t247 :: t248 :: s249 :: s250 :: s251 :: []), []⟩ w') :
    Code.wp Tryz.prog (sameLoop 5) (Exit.inBlock 8 (Exit.then J Q')) ⟨List.toArray (s0 :: s1 :: .pointer (some ⟨g, 0, none⟩) :: .pointer (some ⟨h, 0, none⟩) :: s4 :: s5 :: s6 :: s7 :: s8 :: .int .i64 0 :: s10 :: s11 :: s12 :: s13 :: s14 :: s15 :: s16 :: s17 :: s18 :: s19 :: s20 :: s21 :: s22 :: s23 :: s24 :: s25 :: s26 :: s27 :: s28 :: s29 :: s30 :: s31 :: s32 :: s33 :: s34 :: s35 :: s36 :: s37 :: s38 :: s39 :: s40 :: s41 :: s42 :: s43 :: s44 :: s45 :: s46 :: s47 :: s48 :: s49 :: s50 :: s51 :: s52 :: s53 :: s54 :: s55 :: s56 :: s57 :: s58 :: s59 :: s60 :: s61 :: s62 :: s63 :: s64 :: s65 :: s66 :: s67 :: s68 :: s69 :: s70 :: s71 :: s72 :: s73 :: s74 :: s75 :: s76 :: s77 :: s78 :: s79 :: s80 :: s81 :: s82 :: s83 :: s84 :: s85 :: s86 :: s87 :: s88 :: s89 :: s90 :: s91 :: s92 :: s93 :: s94 :: s95 :: s96 :: s97 :: s98 :: s99 :: s100 :: s101 :: s102 :: s103 :: s104 :: s105 :: s106 :: s107 :: s108 :: s109 :: s110 :: s111 :: s112 :: s113 :: s114 :: s115 :: s116 :: s117 :: s118 :: s119 :: s120 :: s121 :: s122 :: s123 :: s124 :: s125 :: s126 :: s127 :: s128 :: s129 :: s130 :: s131 :: s132 :: s133 :: s134 :: s135 :: s136 :: s137 :: s138 :: s139 :: s140 :: s141 :: s142 :: s143 :: s144 :: s145 :: s146 :: s147 :: s148 :: s149 :: s150 :: s151 :: s152 :: s153 :: s154 :: s155 :: s156 :: s157 :: s158 :: s159 :: s160 :: s161 :: s162 :: s163 :: s164 :: s165 :: s166 :: s167 :: s168 :: s169 :: s170 :: s171 :: s172 :: s173 :: s174 :: s175 :: s176 :: s177 :: s178 :: s179 :: s180 :: s181 :: s182 :: s183 :: s184 :: s185 :: s186 :: s187 :: s188 :: s189 :: s190 :: s191 :: s192 :: s193 :: s194 :: s195 :: s196 :: s197 :: s198 :: s199 :: s200 :: s201 :: s202 :: s203 :: s204 :: s205 :: s206 :: s207 :: s208 :: s209 :: s210 :: s211 :: s212 :: s213 :: s214 :: s215 :: s216 :: s217 :: s218 :: s219 :: s220 :: s221 :: s222 :: s223 :: s224 :: s225 :: s226 :: s227 :: s228 :: s229 :: s230 :: s231 :: s232 :: s233 :: s234 :: s235 :: s236 :: s237 :: s238 :: s239 :: s240 :: s241 :: s242 :: s243 :: s244 :: s245 :: s246 :: s247 :: s248 :: s249 :: s250 :: s251 :: []), []⟩ w0 := by
  have hl : x.src.xs.map sok.er = y.src.xs.map sok.er := congrArg Stm.src he
  obtain ⟨v0, v1, v2, v3, v4, v5, v6, v7, v8⟩ := XSt.enc_b x
  obtain ⟨v0', v1', v2', v3', v4', v5', v6', v7', v8'⟩ := XSt.enc_b y
  have c8 := hX.cell v8
  have d8 := hY.cell v8'
  simp only [XL.val] at c8 d8
  obtain ⟨n8, hl8⟩ : ∃ n, x.src.xs.length = n := ⟨_, rfl⟩
  have hm8 : y.src.xs.length = n8 := by have := congrArg List.length hl; simp at this; omega
  rw [hl8] at c8
  rw [hm8] at d8
  have hbn : n8 ≤ maxLen := by rw [← hl8]; exact Nat.le_trans hm.src.1 hm.src.2.1
  have HM := Lib.hid (And.intro (And.intro hl hl8) (And.intro hm.src hm'.src))
  have HC := Lib.hid (And.intro c8 d8)
  have HS := Lib.hid (And.intro hX.lt hY.lt)
  have HK := Lib.hid hk
  have HWW := Lib.hid hb0
  clear v0 v1 v2 v3 v4 v5 v6 v7 v8 v0' v1' v2' v3' v4' v5' v6' v7' v8' c8 d8 hl8 hm8 hm hm' hX hY he hl hk hb0
  obtain ⟨oa, hoa⟩ : ∃ oa, x.src.a = oa := ⟨_, rfl⟩
  obtain ⟨oc, hoc⟩ : ∃ oc, x.src.cap = oc := ⟨_, rfl⟩
  obtain ⟨ya, hya⟩ : ∃ ya, y.src.a = ya := ⟨_, rfl⟩
  obtain ⟨yc, hyc⟩ : ∃ yc, y.src.cap = yc := ⟨_, rfl⟩
  have HA := Lib.hid (And.intro hoa hya)
  rw [hoa, hoc, hya, hyc] at HC
  clear hoa hoc hya hyc
  conv => arg 2; whnf
  go_loopw [9] (fun i wr => ∃ (k : Nat), k ≤ n8 ∧ i = .int .i64 (k : Int) ∧ Hid (Below wb.heap.size wb wr)) (fun i _ => n8 - (intOf i).toNat)
  case atStart => exact ⟨0, Nat.zero_le _, rfl, HWW⟩
  case round =>
   clear HWW
   obtain ⟨k, hk, rfl, HW⟩ := hrel
   have z1 := (HW.out.cell (p := ⟨g, 8, none⟩) HS.out.1).trans HC.out.1
   have z2 := (HW.out.cell (p := ⟨h, 8, none⟩) HS.out.2).trans HC.out.2
   by_cases c : k < n8
   · have c1 : (k : Int) < (n8 : Int) := by omega
     obtain ⟨⟨d, t, xe⟩, ⟨d', t', ye⟩, hx, hy, hxy⟩ := two_at HM.out.1.1 (k := k) (by rw [HM.out.1.2]; exact c)
     have hdd : d = d' := congrArg Src.table hxy
     have htt : t = t' := congrArg Src.alias_ hxy
     have hee : xe.er = ye.er := congrArg Src.on_ hxy
     subst hdd htt
     obtain ⟨b, o, eb, -, hb, hcell, hmx⟩ := XL.Mem.at (HM.out.2.1.below HW.out) hx
     obtain ⟨b', o', eb', -, hb', hcell', hmy⟩ := XL.Mem.at (HM.out.2.2.below HW.out) hy
     obtain rfl := HA.out.1.symm.trans eb
     obtain rfl := HA.out.2.symm.trans eb'
     have HCA := Lib.hid (fun (wv : World) (hbv : Below wr.heap.size wr wv) => same_any (w := wv) xe ye hee (XE.Mem.below hmx hbv) (XE.Mem.below hmy hbv))
     obtain ⟨op3, kind3, num3, scale3, text3, qual3, a3, cap3, args3⟩ := xe
     obtain ⟨op4, kind4, num4, scale4, text4, qual4, a4, cap4, args4⟩ := ye
     have hcl : ∀ j u, (sok.enc (d, t, (XE.mk op3 kind3 num3 scale3 text3 qual3 a3 cap3 args3)))[j]? = some u → wr.cell? ⟨b, o + k * 9 + j, none⟩ = some u := hcell
     have hcl' : ∀ j u, (sok.enc (d, t, (XE.mk op4 kind4 num4 scale4 text4 qual4 a4 cap4 args4)))[j]? = some u → wr.cell? ⟨b', o' + k * 9 + j, none⟩ = some u := hcell'
     have q0 := hcl 0 _ rfl
     have q1 := hcl 1 _ rfl
     have q2 := hcl 2 _ rfl
     have q3 := hcl 3 _ rfl
     have q4 := hcl 4 _ rfl
     have q5 := hcl 5 _ rfl
     have q6 := hcl 6 _ rfl
     have q7 := hcl 7 _ rfl
     have q8 := hcl 8 _ rfl
     have p0 := hcl' 0 _ rfl
     have p1 := hcl' 1 _ rfl
     have p2 := hcl' 2 _ rfl
     have p3 := hcl' 3 _ rfl
     have p4 := hcl' 4 _ rfl
     have p5 := hcl' 5 _ rfl
     have p6 := hcl' 6 _ rfl
     have p7 := hcl' 7 _ rfl
     have p8 := hcl' 8 _ rfl
     rw [Nat.add_zero] at q0 p0
     have hwk : wrap64 ((k : Int) + 1) = ((k + 1 : Nat) : Int) := by unfold wrap64 maxLen at *; omega
     have HK2 := Lib.hid (fun (w0 : World) (hb0 : Below wr.heap.size wr w0) => show Below wr.heap.size wr w0 ∧ w0.cell? ⟨g, 8, none⟩ = some (.slice (some ⟨b, o, none⟩) n8 oc) ∧ w0.cell? ⟨h, 8, none⟩ = some (.slice (some ⟨b', o', none⟩) n8 yc) ∧ w0.cell? ⟨b, o + k * 9, none⟩ = some (.string (strB d)) ∧ w0.cell? ⟨b, o + k * 9 + 1, none⟩ = some (.string (strB t)) ∧ w0.cell? ⟨b, o + k * 9 + 2, none⟩ = some (.int .i64 op3) ∧ w0.cell? ⟨b, o + k * 9 + 3, none⟩ = some (.slice a3 args3.length cap3) ∧ w0.cell? ⟨b, o + k * 9 + 4, none⟩ = some (.int .i64 kind3) ∧ w0.cell? ⟨b, o + k * 9 + 5, none⟩ = some (.int .i64 num3) ∧ w0.cell? ⟨b, o + k * 9 + 6, none⟩ = some (.int .i64 scale3) ∧ w0.cell? ⟨b, o + k * 9 + 7, none⟩ = some (.string text3) ∧ w0.cell? ⟨b, o + k * 9 + 8, none⟩ = some (.string qual3) ∧ w0.cell? ⟨b', o' + k * 9, none⟩ = some (.string (strB d)) ∧ w0.cell? ⟨b', o' + k * 9 + 1, none⟩ = some (.string (strB t)) ∧ w0.cell? ⟨b', o' + k * 9 + 2, none⟩ = some (.int .i64 op4) ∧ w0.cell? ⟨b', o' + k * 9 + 3, none⟩ = some (.slice a4 args4.length cap4) ∧ w0.cell? ⟨b', o' + k * 9 + 4, none⟩ = some (.int .i64 kind4) ∧ w0.cell? ⟨b', o' + k * 9 + 5, none⟩ = some (.int .i64 num4) ∧ w0.cell? ⟨b', o' + k * 9 + 6, none⟩ = some (.int .i64 scale4) ∧ w0.cell? ⟨b', o' + k * 9 + 7, none⟩ = some (.string text4) ∧ w0.cell? ⟨b', o' + k * 9 + 8, none⟩ = some (.string qual4) from ⟨hb0, (hb0.cell (p := ⟨g, 8, none⟩) (Nat.lt_of_lt_of_le HS.out.1 HW.out.size)).trans z1, (hb0.cell (p := ⟨h, 8, none⟩) (Nat.lt_of_lt_of_le HS.out.2 HW.out.size)).trans z2, (hb0.cell (by exact hb)).trans q0, (hb0.cell (by exact hb)).trans q1, (hb0.cell (by exact hb)).trans q2, (hb0.cell (by exact hb)).trans q3, (hb0.cell (by exact hb)).trans q4, (hb0.cell (by exact hb)).trans q5, (hb0.cell (by exact hb)).trans q6, (hb0.cell (by exact hb)).trans q7, (hb0.cell (by exact hb)).trans q8, (hb0.cell (by exact hb')).trans p0, (hb0.cell (by exact hb')).trans p1, (hb0.cell (by exact hb')).trans p2, (hb0.cell (by exact hb')).trans p3, (hb0.cell (by exact hb')).trans p4, (hb0.cell (by exact hb')).trans p5, (hb0.cell (by exact hb')).trans p6, (hb0.cell (by exact hb')).trans p7, (hb0.cell (by exact hb')).trans p8⟩)
     simp only [XE.val] at HCA
     clear hx hy hcell hcell' hcl hcl' hmx hmy hee hxy eb eb'
     go_wp2_with fail
     go_region_held3 (fun w0 => Below wr.heap.size wr w0 ∧ w0.cell? ⟨g, 8, none⟩ = some (.slice (some ⟨b, o, none⟩) n8 oc) ∧ w0.cell? ⟨h, 8, none⟩ = some (.slice (some ⟨b', o', none⟩) n8 yc) ∧ w0.cell? ⟨b, o + k * 9, none⟩ = some (.string (strB d)) ∧ w0.cell? ⟨b, o + k * 9 + 1, none⟩ = some (.string (strB t)) ∧ w0.cell? ⟨b, o + k * 9 + 2, none⟩ = some (.int .i64 op3) ∧ w0.cell? ⟨b, o + k * 9 + 3, none⟩ = some (.slice a3 args3.length cap3) ∧ w0.cell? ⟨b, o + k * 9 + 4, none⟩ = some (.int .i64 kind3) ∧ w0.cell? ⟨b, o + k * 9 + 5, none⟩ = some (.int .i64 num3) ∧ w0.cell? ⟨b, o + k * 9 + 6, none⟩ = some (.int .i64 scale3) ∧ w0.cell? ⟨b, o + k * 9 + 7, none⟩ = some (.string text3) ∧ w0.cell? ⟨b, o + k * 9 + 8, none⟩ = some (.string qual3) ∧ w0.cell? ⟨b', o' + k * 9, none⟩ = some (.string (strB d)) ∧ w0.cell? ⟨b', o' + k * 9 + 1, none⟩ = some (.string (strB t)) ∧ w0.cell? ⟨b', o' + k * 9 + 2, none⟩ = some (.int .i64 op4) ∧ w0.cell? ⟨b', o' + k * 9 + 3, none⟩ = some (.slice a4 args4.length cap4) ∧ w0.cell? ⟨b', o' + k * 9 + 4, none⟩ = some (.int .i64 kind4) ∧ w0.cell? ⟨b', o' + k * 9 + 5, none⟩ = some (.int .i64 num4) ∧ w0.cell? ⟨b', o' + k * 9 + 6, none⟩ = some (.int .i64 scale4) ∧ w0.cell? ⟨b', o' + k * 9 + 7, none⟩ = some (.string text4) ∧ w0.cell? ⟨b', o' + k * 9 + 8, none⟩ = some (.string qual4))
       (first | exact HK2.out _ (Below.refl _ _) | exact HK2.out _ (Below.refl _ _).drew | exact HK2.out _ hbx)
       (first | (go_at_call 21; refine (HCA.out _ (And.left (by assumption))).mono ?_; rintro e w1 ⟨rfl, hbx0⟩; have hbx : Below wr.heap.size wr w1 := clq (by assumption) hbx0))
     all_goals
      have HWN := Lib.hid (HW.out.trans (hbx.mono HW.out.size))
      go_wp2_with fail
      refine ⟨⟨k + 1, Nat.succ_le_of_lt c, by rw [hwk], HWN⟩, ?_⟩
      rw [hwk]
      simp [intOf]
      omega
   · have c2 : decide ((k : Int) < (n8 : Int)) = false := by simp; omega
     obtain rfl : k = n8 := by omega
     clear HA HM HC z2
     go_wp2_with fail
     exact HK.out _ _ _ _ _ _ _ _ _ _ _ _ _ _ _ _ _ _ _ _ _ _ _ _ _ _ _ _ _ _ _ _ _ _ _ _ _ _ _ _ _ _ _ _ _ _ _ _ _ _ _ _ _ wr HW.out

end Go.Proofs.YtkffomfbnbcgaaaGreatDoor

namespace Go.Proofs.YtkffomfbnbcgaaaGreatDoor
set_option maxRecDepth 100000
open Go.RowKit Go.Joins Go.ChangeShapes Go.WideShapes
set_option linter.unusedVariables false
set_option linter.unusedSimpArgs false

set_option maxHeartbeats 16000000 in
theorem whole_q {K K' : Bl} {w : World} (x y : XSt) (h : x.er = y.er) (hm : XSt.Mem K w x) (hm' : XSt.Mem K' w y) :
    Calls Tryz.prog 15 #[x.val, y.val] w fun e w' => e = .returned (.bool true) ∧ Below w.heap.size w w' := by
  have g0 : x.kind = y.kind := congrArg Stm.kind h
  have g1 : x.table = y.table := congrArg Stm.table h
  have g2 : x.index = y.index := congrArg Stm.index h
  have g3 : x.cols.xs.map cok.er = y.cols.xs.map cok.er := congrArg Stm.cols h
  have g4 : x.names.xs.map stk.er = y.names.xs.map stk.er := congrArg Stm.names h
  have g5 : x.uniq = y.uniq := congrArg Stm.uniq h
  have g6 : x.rows.xs.map rok.er = y.rows.xs.map rok.er := congrArg Stm.rows h
  have g7 : x.items.xs.map itk.er = y.items.xs.map itk.er := congrArg Stm.items h
  have g8 : x.src.xs.map sok.er = y.src.xs.map sok.er := congrArg Stm.src h
  have g9 : x.whr.er = y.whr.er := congrArg Stm.whr h
  have g10 : x.order.xs.length = y.order.xs.length := by have := congrArg List.length (congrArg Stm.order h); simpa [XSt.er] using this
  have g11 : x.sets.xs.length = y.sets.xs.length := by have := congrArg List.length (congrArg Stm.sets h); simpa [XSt.er] using this
  have hn1 := Bx.new w x.enc.toArray 34
  have b1 : Below w.heap.size w (w.alloc (.cells x.enc.toArray 34)) := (Below.refl _ _).alloc (Nat.le_refl _) _
  obtain ⟨wa, hwa⟩ : ∃ wa, w.alloc (.cells x.enc.toArray 34) = wa := ⟨_, rfl⟩
  rw [hwa] at hn1 b1
  have hn2 := Bx.new wa y.enc.toArray 34
  have b2 : Below wa.heap.size wa (wa.alloc (.cells y.enc.toArray 34)) := (Below.refl _ _).alloc (Nat.le_refl _) _
  have hn3 := hn1.below b2
  have b3 := b1.trans (b2.mono b1.size)
  obtain ⟨wb, hwb⟩ : ∃ wb, wa.alloc (.cells y.enc.toArray 34) = wb := ⟨_, rfl⟩
  rw [hwb] at b2 hn2 hn3 b3
  have mx : XSt.Mem K wb x := XSt.Mem.frm (Frm.of_below (F := fun _ => False) b3) (fun _ _ e => e) hm
  have my : XSt.Mem K' wb y := XSt.Mem.frm (Frm.of_below (F := fun _ => False) b3) (fun _ _ e => e) hm'
  have HB := Lib.hid b3
  have HLQ := Lib.hid (fun (wv : World) (hb : Below wb.heap.size wb wv) => last_q (w := wv) x y h (XSt.Mem.frm (Frm.of_below (F := fun _ => False) hb) (fun _ _ e => e) mx) (XSt.Mem.frm (Frm.of_below (F := fun _ => False) hb) (fun _ _ e => e) my))
  have HLD := Lib.hid (fun (wv : World) (hb : Below wb.heap.size wb wv) => And.intro (ld_V (x := x) (hn3.below hb)) (ld_V (x := y) (hn2.below hb)))
  have HWQ := Lib.hid (same_any (w := wb) x.whr y.whr g9 mx.whr my.whr)
  have HALL := Lib.hid (And.intro h (And.intro mx (And.intro my (And.intro hn3 hn2))))
  obtain ⟨op1, kind1, num1, scale1, text1, qual1, a1, cap1, args1, hz⟩ : ∃ op kind num scale text qual a cap args, x.whr = .mk op kind num scale text qual a cap args := by cases x.whr; exact ⟨_, _, _, _, _, _, _, _, _, rfl⟩
  obtain ⟨op2, kind2, num2, scale2, text2, qual2, a2, cap2, args2, hz'⟩ : ∃ op kind num scale text qual a cap args, y.whr = .mk op kind num scale text qual a cap args := by cases y.whr; exact ⟨_, _, _, _, _, _, _, _, _, rfl⟩
  rw [hz, hz'] at HWQ
  simp only [XE.val] at HWQ
  obtain ⟨v9, v10, v11, v12, v13, v14, v15⟩ := XSt.enc_w hz
  obtain ⟨v9', v10', v11', v12', v13', v14', v15'⟩ := XSt.enc_w hz'
  obtain ⟨v0, v1, v2, v3, v4, v5, v6, v7, v8⟩ := XSt.enc_b x
  obtain ⟨v0', v1', v2', v3', v4', v5', v6', v7', v8'⟩ := XSt.enc_b y
  rw [← g0] at v0'
  rw [← g1] at v1'
  rw [← g2] at v2'
  rw [← g5] at v5'
  have c0 := hn3.cell v0
  have d0 := hn2.cell v0'
  have c1 := hn3.cell v1
  have d1 := hn2.cell v1'
  have c2 := hn3.cell v2
  have d2 := hn2.cell v2'
  have c3 := hn3.cell v3
  have d3 := hn2.cell v3'
  have c4 := hn3.cell v4
  have d4 := hn2.cell v4'
  have c5 := hn3.cell v5
  have d5 := hn2.cell v5'
  have c6 := hn3.cell v6
  have d6 := hn2.cell v6'
  have c7 := hn3.cell v7
  have d7 := hn2.cell v7'
  have c8 := hn3.cell v8
  have d8 := hn2.cell v8'
  have c9 := hn3.cell v9
  have d9 := hn2.cell v9'
  have c10 := hn3.cell v10
  have d10 := hn2.cell v10'
  have c11 := hn3.cell v11
  have d11 := hn2.cell v11'
  have c12 := hn3.cell v12
  have d12 := hn2.cell v12'
  have c13 := hn3.cell v13
  have d13 := hn2.cell v13'
  have c14 := hn3.cell v14
  have d14 := hn2.cell v14'
  have c15 := hn3.cell v15
  have d15 := hn2.cell v15'
  have c16 := hn3.cell (XSt.enc_16 x)
  have d16 := hn2.cell (XSt.enc_16 y)
  have c17 := hn3.cell (XSt.enc_17 x)
  have d17 := hn2.cell (XSt.enc_17 y)
  simp only [XL.val] at c3 d3 c4 d4 c6 d6 c7 d7 c8 d8 c16 d16 c17 d17
  rw [← g10] at d16
  rw [← g11] at d17
  obtain ⟨n3, hl3⟩ : ∃ n, x.cols.xs.length = n := ⟨_, rfl⟩
  have hm3 : y.cols.xs.length = n3 := by have := congrArg List.length g3; simp at this; omega
  rw [hl3] at c3
  rw [hm3] at d3
  obtain ⟨n4, hl4⟩ : ∃ n, x.names.xs.length = n := ⟨_, rfl⟩
  have hm4 : y.names.xs.length = n4 := by have := congrArg List.length g4; simp at this; omega
  rw [hl4] at c4
  rw [hm4] at d4
  obtain ⟨n6, hl6⟩ : ∃ n, x.rows.xs.length = n := ⟨_, rfl⟩
  have hm6 : y.rows.xs.length = n6 := by have := congrArg List.length g6; simp at this; omega
  rw [hl6] at c6
  rw [hm6] at d6
  obtain ⟨n7, hl7⟩ : ∃ n, x.items.xs.length = n := ⟨_, rfl⟩
  have hm7 : y.items.xs.length = n7 := by have := congrArg List.length g7; simp at this; omega
  rw [hl7] at c7
  rw [hm7] at d7
  obtain ⟨n8, hl8⟩ : ∃ n, x.src.xs.length = n := ⟨_, rfl⟩
  have hm8 : y.src.xs.length = n8 := by have := congrArg List.length g8; simp at this; omega
  rw [hl8] at c8
  rw [hm8] at d8
  generalize hP : (fun (e : Ending) (w' : World) => e = .returned (.bool true) ∧ Below w.heap.size w w') = P
  have HP := Lib.hid hP
  simp only [XSt.val]
  clear hP hn1 hn2 hn3 b1 b2 b3 hm hm' h mx my g0 g1 g2 g3 g4 g5 g6 g7 g8 g9 g10 g11 hz hz' v0 v0' v1 v1' v2 v2' v3 v3' v4 v4' v5 v5' v6 v6' v7 v7' v8 v8' v9 v9' v10 v10' v11 v11' v12 v12' v13 v13' v14 v14' v15 v15' hl3 hm3 hl4 hm4 hl6 hm6 hl7 hm7 hl8 hm8
  go_enter Tryz.func15, Tryz.ntmps15
  go_wp2_with (first | (go_at_call 21; refine HWQ.out.mono ?_; rintro e w1 ⟨rfl, hw1⟩; have HW1 := Lib.hid hw1; clear hw1 HWQ))
  clear c0 d0 c1 d1 c2 d2 c3 d3 c4 d4 c5 d5 c6 d6 c7 d7 c8 d8 c9 d9 c10 d10 c11 d11 c12 d12 c13 d13 c14 d14 c15 d15 c16 d16 c17 d17
  refine same_l1 x y HALL.out.1 HALL.out.2.1 HALL.out.2.2.1 HALL.out.2.2.2.1 HALL.out.2.2.2.2 _ _ _ HW1.out _ _ _ _ _ _ _ _ _ _ _ _ _ _ _ _ _ _ _ _ _ _ _ _ _ _ _ _ _ _ _ _ _ _ _ _ _ _ _ _ _ _ _ _ _ _ _ _ _ _ _ _ _ _ _ _ _ _ _ _ _ _ _ _ _ _ _ _ _ _ _ _ _ _ _ _ _ _ _ _ _ _ _ _ _ _ _ _ _ _ _ _ _ _ _ _ _ _ _ _ _ _ _ _ _ _ _ _ _ _ _ _ _ _ _ _ _ _ _ _ _ _ _ _ _ _ _ _ _ _ _ _ _ _ _ _ _ _ _ _ _ _ _ _ _ _ _ _ _ _ _ _ _ _ _ _ _ _ _ _ _ _ _ _ _ _ _ _ _ _ _ _ _ _ _ _ _ _ _ _ _ _ _ _ _ _ _ _ _ _ _ _ _ _ _ _ _ _ _ _ _ _ _ _ _ _ _ _ _ _ _ _ _ _ _ _ _ _ _ _ _ _ _ _ _ _ _ _ _ _ _ _ _ _ _ _ _ _ _ _ _ _ _ _ _ _ _ _ _ ?_
  intro _ _ _ _ _ _ _ _ _ _ _ _ _ _ _ _ _ _ _ _ wx1 hwx
  have HW2 := Lib.hid hwx
  clear hwx HW1
  go_wp2_with fail
  refine same_l2 x y HALL.out.1 HALL.out.2.1 HALL.out.2.2.1 HALL.out.2.2.2.1 HALL.out.2.2.2.2 _ _ _ HW2.out _ _ _ _ _ _ _ _ _ _ _ _ _ _ _ _ _ _ _ _ _ _ _ _ _ _ _ _ _ _ _ _ _ _ _ _ _ _ _ _ _ _ _ _ _ _ _ _ _ _ _ _ _ _ _ _ _ _ _ _ _ _ _ _ _ _ _ _ _ _ _ _ _ _ _ _ _ _ _ _ _ _ _ _ _ _ _ _ _ _ _ _ _ _ _ _ _ _ _ _ _ _ _ _ _ _ _ _ _ _ _ _ _ _ _ _ _ _ _ _ _ _ _ _ _ _ _ _ _ _ _ _ _ _ _ _ _ _ _ _ _ _ _ _ _ _ _ _ _ _ _ _ _ _ _ _ _ _ _ _ _ _ _ _ _ _ _ _ _ _ _ _ _ _ _ _ _ _ _ _ _ _ _ _ _ _ _ _ _ _ _ _ _ _ _ _ _ _ _ _ _ _ _ _ _ _ _ _ _ _ _ _ _ _ _ _ _ _ _ _ _ _ _ _ _ _ _ _ _ _ _ _ _ _ _ _ _ _ _ _ _ _ _ _ _ _ _ _ _ ?_
  intro _ _ _ _ _ _ _ _ _ _ _ _ _ _ _ _ _ _ _ _ wx2 hwx
  have HW3 := Lib.hid hwx
  clear hwx HW2
  go_wp2_with fail
  refine same_l3 x y HALL.out.1 HALL.out.2.1 HALL.out.2.2.1 HALL.out.2.2.2.1 HALL.out.2.2.2.2 _ _ _ HW3.out _ _ _ _ _ _ _ _ _ _ _ _ _ _ _ _ _ _ _ _ _ _ _ _ _ _ _ _ _ _ _ _ _ _ _ _ _ _ _ _ _ _ _ _ _ _ _ _ _ _ _ _ _ _ _ _ _ _ _ _ _ _ _ _ _ _ _ _ _ _ _ _ _ _ _ _ _ _ _ _ _ _ _ _ _ _ _ _ _ _ _ _ _ _ _ _ _ _ _ _ _ _ _ _ _ _ _ _ _ _ _ _ _ _ _ _ _ _ _ _ _ _ _ _ _ _ _ _ _ _ _ _ _ _ _ _ _ _ _ _ _ _ _ _ _ _ _ _ _ _ _ _ _ _ _ _ _ _ _ _ _ _ _ _ _ _ _ _ _ _ _ _ _ _ _ _ _ _ _ _ _ _ _ _ _ _ _ _ _ _ _ _ _ _ _ _ _ _ _ _ _ _ _ _ _ _ _ _ _ _ _ _ _ _ _ _ _ _ _ _ _ _ _ _ _ _ _ _ _ _ _ _ _ _ _ _ _ _ _ _ _ _ _ _ _ _ _ _ _ ?_
  intro _ _ _ _ _ _ _ _ _ _ _ _ _ _ _ _ _ _ _ _ _ wx3 hwx
  have HW4 := Lib.hid hwx
  clear hwx HW3
  go_wp2_with fail
  refine same_l4 x y HALL.out.1 HALL.out.2.1 HALL.out.2.2.1 HALL.out.2.2.2.1 HALL.out.2.2.2.2 _ _ _ HW4.out _ _ _ _ _ _ _ _ _ _ _ _ _ _ _ _ _ _ _ _ _ _ _ _ _ _ _ _ _ _ _ _ _ _ _ _ _ _ _ _ _ _ _ _ _ _ _ _ _ _ _ _ _ _ _ _ _ _ _ _ _ _ _ _ _ _ _ _ _ _ _ _ _ _ _ _ _ _ _ _ _ _ _ _ _ _ _ _ _ _ _ _ _ _ _ _ _ _ _ _ _ _ _ _ _ _ _ _ _ _ _ _ _ _ _ _ _ _ _ _ _ _ _ _ _ _ _ _ _ _ _ _ _ _ _ _ _ _ _ _ _ _ _ _ _ _ _ _ _ _ _ _ _ _ _ _ _ _ _ _ _ _ _ _ _ _ _ _ _ _ _ _ _ _ _ _ _ _ _ _ _ _ _ _ _ _ _ _ _ _ _ _ _ _ _ _ _ _ _ _ _ _ _ _ _ _ _ _ _ _ _ _ _ _ _ _ _ _ _ _ _ _ _ _ _ _ _ _ _ _ _ _ _ _ _ _ _ _ _ _ _ _ _ _ _ _ _ _ _ ?_
  intro _ _ _ _ _ _ _ _ _ _ _ _ _ _ _ _ _ _ _ _ _ _ _ _ _ _ _ _ _ _ _ _ _ _ _ _ _ _ wx4 hwx
  have HW5 := Lib.hid hwx
  clear hwx HW4
  go_wp2_with fail
  refine same_l5 x y HALL.out.1 HALL.out.2.1 HALL.out.2.2.1 HALL.out.2.2.2.1 HALL.out.2.2.2.2 _ _ _ HW5.out _ _ _ _ _ _ _ _ _ _ _ _ _ _ _ _ _ _ _ _ _ _ _ _ _ _ _ _ _ _ _ _ _ _ _ _ _ _ _ _ _ _ _ _ _ _ _ _ _ _ _ _ _ _ _ _ _ _ _ _ _ _ _ _ _ _ _ _ _ _ _ _ _ _ _ _ _ _ _ _ _ _ _ _ _ _ _ _ _ _ _ _ _ _ _ _ _ _ _ _ _ _ _ _ _ _ _ _ _ _ _ _ _ _ _ _ _ _ _ _ _ _ _ _ _ _ _ _ _ _ _ _ _ _ _ _ _ _ _ _ _ _ _ _ _ _ _ _ _ _ _ _ _ _ _ _ _ _ _ _ _ _ _ _ _ _ _ _ _ _ _ _ _ _ _ _ _ _ _ _ _ _ _ _ _ _ _ _ _ _ _ _ _ _ _ _ _ _ _ _ _ _ _ _ _ _ _ _ _ _ _ _ _ _ _ _ _ _ _ _ _ _ _ _ _ _ _ _ _ _ _ _ _ _ _ _ _ _ _ _ _ _ _ _ _ _ _ _ _ ?_
  intro _ _ _ _ _ _ _ _ _ _ _ _ _ _ _ _ _ _ _ _ _ _ _ _ _ _ _ _ _ _ _ _ _ _ _ _ _ _ _ _ _ _ _ _ _ _ _ _ _ _ _ _ _ wx5 hwx
  have HW6 := Lib.hid hwx
  clear hwx HW5
  have HL1 := Lib.hid (HLD.out _ HW6.out).1
  have HL2 := Lib.hid (HLD.out _ HW6.out).2
  have HLS := Lib.hid (HLQ.out _ HW6.out)
  go_wp2_with (first | (refine wpLd rfl _ rfl rfl HL1.out ?_; clear HL1) | (refine wpLd rfl _ rfl rfl HL2.out ?_; clear HL2) | (go_at_call 35; refine HLS.out.mono ?_; rintro e w3 ⟨rfl, hw3⟩; have HF := Lib.hid (show P (.returned (.bool true)) w3 by rw [← HP.out]; exact ⟨rfl, (HB.out.trans (HW6.out.mono HB.out.size)).trans (hw3.mono (HB.out.trans (HW6.out.mono HB.out.size)).size)⟩); clear hw3))
  exact HF.out

end Go.Proofs.YtkffomfbnbcgaaaGreatDoor

namespace Go.Proofs.YtkffomfbnbcgaaaGreatDoor
set_option maxRecDepth 100000
open Go.RowKit Go.Joins Go.ChangeShapes Go.WideShapes
set_option linter.unusedVariables false
set_option linter.unusedSimpArgs false

/-- a byte as a capital letter, where it is a small one -/
def uprL (c : Nat) : Nat := if smL c then c - 32 else c
/-- letters outside of texts as capitals: the state tells whether a text is open -/
def caseL : Bool → List Nat → List Nat
  | _, [] => []
  | q, c :: r => (if (if c = 39 then !q else q) then c else uprL c) :: caseL (if c = 39 then !q else q) r
theorem uprL_cases (c : Nat) : (smL c = false ∧ uprL c = c) ∨ (97 ≤ c ∧ c ≤ 122 ∧ uprL c = c - 32) := by
  unfold uprL smL
  by_cases h : 97 ≤ c ∧ c ≤ 122
  · right
    simp [h]
  · left
    have : (decide (97 ≤ c) && decide (c ≤ 122)) = false := by
      simp only [Bool.and_eq_false_iff, decide_eq_false_iff_not]
      omega
    simp [this]
theorem up_same (f : Nat → Bool) (hf : ∀ c, 97 ≤ c → c ≤ 122 → f (c - 32) = f c) (c : Nat) : f (uprL c) = f c := by
  rcases uprL_cases c with ⟨_, h⟩ | ⟨h1, h2, h⟩
  · rw [h]
  · rw [h, hf c h1 h2]
theorem case_len : ∀ (q : Bool) (l : List Nat), (caseL q l).length = l.length
  | _, [] => rfl
  | q, c :: r => by rw [caseL, List.length_cons, List.length_cons, case_len]
theorem case_cons (c : Nat) (r : List Nat) (h : c ≠ 39) : caseL false (c :: r) = uprL c :: caseL false r := by
  rw [caseL, if_neg h]; rfl
theorem case_in (c : Nat) (r : List Nat) (h : c ≠ 39) : caseL true (c :: r) = c :: caseL true r := by
  rw [caseL, if_neg h]; rfl
theorem case_q (r : List Nat) : caseL false (39 :: r) = 39 :: caseL true r := by
  rw [caseL, if_pos rfl]; rfl
theorem case_q' (r : List Nat) : caseL true (39 :: r) = 39 :: caseL false r := by
  rw [caseL, if_pos rfl]; rfl
/-- a run of bytes of a sort that neither quotes nor the case of letters touch -/
theorem case_run (f : Nat → Bool) (hf : ∀ c, f (uprL c) = f c) (h39 : f 39 = false) : ∀ l : List Nat,
    runL f (caseL false l) = runL f l ∧ (caseL false l).take (runL f l) = (l.take (runL f l)).map uprL ∧ (caseL false l).drop (runL f l) = caseL false (l.drop (runL f l))
  | [] => ⟨rfl, rfl, rfl⟩
  | c :: r => by
    by_cases h : c = 39
    · subst h
      rw [case_q, runL_cons, runL_cons, h39]
      refine ⟨rfl, rfl, ?_⟩
      show 39 :: caseL true r = caseL false (39 :: r)
      rw [case_q]
    · obtain ⟨h1, h2, h3⟩ := case_run f hf h39 r
      rw [case_cons c r h, runL_cons, runL_cons, hf]
      cases hc : f c with
      | false =>
        refine ⟨rfl, rfl, ?_⟩
        show uprL c :: caseL false r = caseL false (c :: r)
        rw [case_cons c r h]
      | true =>
        rw [if_pos rfl, if_pos rfl]
        refine ⟨by rw [h1], ?_, ?_⟩
        · rw [List.take_succ_cons, h2, List.take_succ_cons, List.map_cons]
        · rw [List.drop_succ_cons, h3, List.drop_succ_cons]
theorem up_dg (c : Nat) : dgL (uprL c) = dgL c := up_same dgL (fun c h1 h2 => by
  have a : dgL (c - 32) = false := by unfold dgL; simp only [Bool.and_eq_false_iff, decide_eq_false_iff_not]; omega
  have b : dgL c = false := by unfold dgL; simp only [Bool.and_eq_false_iff, decide_eq_false_iff_not]; omega
  rw [a, b]) c
theorem up_bw (c : Nat) : bwL (uprL c) = bwL c := up_same bwL (fun c h1 h2 => by
  have a : bwL (c - 32) = true := by unfold bwL cpL; simp only [Bool.or_eq_true, Bool.and_eq_true, decide_eq_true_eq]; omega
  have b : bwL c = true := by unfold bwL smL; simp only [Bool.or_eq_true, Bool.and_eq_true, decide_eq_true_eq]; omega
  rw [a, b]) c
theorem up_iw (c : Nat) : iwL (uprL c) = iwL c := by unfold iwL; rw [up_bw, up_dg]
theorem low_up (c : Nat) : lowL (uprL c) = lowL c := by
  rcases uprL_cases c with ⟨_, h⟩ | ⟨h1, h2, h⟩
  · rw [h]
  · rw [h]
    unfold lowL cpL
    rw [if_pos (by simp only [Bool.and_eq_true, decide_eq_true_eq]; omega), if_neg (by simp only [Bool.and_eq_true, decide_eq_true_eq]; omega)]
    omega
/-- a byte that is no letter reads the same -/
theorem up_eq (c k : Nat) (hk : k < 65 ∨ 122 < k) : (uprL c == k) = (c == k) := by
  rcases uprL_cases c with ⟨_, h⟩ | ⟨h1, h2, h⟩
  · rw [h]
  · rw [h]
    have a : (c - 32 == k) = false := by simp; omega
    have b : (c == k) = false := by simp; omega
    rw [a, b]
theorem case_text : ∀ (n : Nat) (l : List Nat), l.length ≤ n → textL (caseL true l) = textL l ∧ ∀ x, textL l = some x → (caseL true l).drop x.2 = caseL false (l.drop x.2)
  | 0, l, hn => by
    have : l = [] := List.length_eq_zero_iff.1 (by omega)
    subst this
    exact ⟨rfl, fun x h => by simp [textL] at h⟩
  | n + 1, [], hn => ⟨rfl, fun x h => by simp [textL] at h⟩
  | n + 1, c :: r, hn => by
    have hl : r.length ≤ n := by simp at hn; omega
    by_cases hc : c = 39
    · subst hc
      rw [case_q']
      cases r with
      | nil =>
        refine ⟨rfl, fun x h => ?_⟩
        rw [textL_end (fun d t e => by cases e)] at h
        injection h with h
        subst h
        rfl
      | cons d r' =>
        by_cases hd : d = 39
        · subst hd
          obtain ⟨h1, h2⟩ := case_text n r' (by simp at hl; omega)
          rw [case_q, textL_two, textL_two, h1]
          refine ⟨rfl, fun x h => ?_⟩
          cases hx : textL r' with
          | none => rw [hx] at h; cases h
          | some y =>
            rw [hx] at h
            simp only [Option.map_some, Option.some.injEq] at h
            subst h
            show ((39 : Nat) :: 39 :: caseL true r').drop (y.2 + 1 + 1) = caseL false ((39 :: 39 :: r').drop (y.2 + 1 + 1))
            rw [List.drop_succ_cons, List.drop_succ_cons, List.drop_succ_cons, List.drop_succ_cons, h2 y hx]
        · rw [case_cons d r' hd]
          have hu : uprL d ≠ 39 := fun e => by
            have := up_eq d 39 (by omega)
            rw [e] at this
            simp at this
            exact hd this
          rw [textL_end (s := d :: r') (fun d' t e => by injection e with e1 e2; rw [← e1]; exact hd), textL_end (s := uprL d :: caseL false r') (fun d' t e => by injection e with e1 e2; rw [← e1]; exact hu)]
          refine ⟨rfl, fun x h => ?_⟩
          injection h with h
          subst h
          show uprL d :: caseL false r' = caseL false (d :: r')
          rw [case_cons d r' hd]
    · obtain ⟨h1, h2⟩ := case_text n r hl
      rw [case_in c r hc, textL_q _ hc, textL_q r hc, h1]
      refine ⟨rfl, fun x h => ?_⟩
      cases hx : textL r with
      | none => rw [hx] at h; cases h
      | some y =>
        rw [hx] at h
        simp only [Option.map_some, Option.some.injEq] at h
        subst h
        show (c :: caseL true r).drop (y.2 + 1) = caseL false ((c :: r).drop (y.2 + 1))
        rw [List.drop_succ_cons, List.drop_succ_cons, h2 y hx]
theorem case_frac (l : List Nat) : fracL (caseL false l) = fracL l := by
  match l with
  | [] => rfl
  | [c] =>
    by_cases h : c = 39
    · subst h; rfl
    · rw [case_cons c [] h]; rfl
  | c :: d :: r =>
    by_cases h : c = 39
    · subst h
      rw [case_q]
      by_cases hd : d = 39
      · subst hd; rw [case_q']; rfl
      · rw [case_in d r hd]; rfl
    · rw [case_cons c _ h]
      by_cases hd : d = 39
      · subst hd
        rw [case_q]
        show (uprL c == 46 && dgL 39) = (c == 46 && dgL 39)
        rw [up_eq c 46 (by omega)]
      · rw [case_cons d r hd]
        show (uprL c == 46 && dgL (uprL d)) = (c == 46 && dgL d)
        rw [up_eq c 46 (by omega), up_dg]
theorem signL_one (c : Nat) : signL [c] = if [40, 41, 44, 46, 42, 43, 45, 47, 37, 61, 60, 62].contains c then 1 else 0 := by
  unfold signL
  rfl
theorem signL_two (c d : Nat) (r : List Nat) : signL (c :: d :: r) = if (c == 60 && d == 62) || (c == 60 && d == 61) || (c == 62 && d == 61) || (c == 124 && d == 124) then 2 else signL [c] := by
  rw [signL_one]
  unfold signL
  rfl
theorem up_sign (c : Nat) : signL [uprL c] = signL [c] := by
  rw [signL_one, signL_one]
  have : [40, 41, 44, 46, 42, 43, 45, 47, 37, 61, 60, 62].contains (uprL c) = [40, 41, 44, 46, 42, 43, 45, 47, 37, 61, 60, 62].contains c := by
    simp only [List.contains_cons, List.contains_nil, up_eq c 40 (by omega), up_eq c 41 (by omega), up_eq c 44 (by omega), up_eq c 46 (by omega), up_eq c 42 (by omega), up_eq c 43 (by omega), up_eq c 45 (by omega), up_eq c 47 (by omega), up_eq c 37 (by omega), up_eq c 61 (by omega), up_eq c 60 (by omega), up_eq c 62 (by omega)]
  rw [this]
theorem case_sign (c : Nat) (r : List Nat) (h39 : c ≠ 39) (hb : bwL c = false) : signL (caseL false (c :: r)) = signL (c :: r) ∧ (caseL false (c :: r)).take (signL (c :: r)) = (c :: r).take (signL (c :: r)) ∧ (caseL false (c :: r)).drop (signL (c :: r)) = caseL false ((c :: r).drop (signL (c :: r))) := by
  have hu : uprL c = c := by
    rcases uprL_cases c with ⟨_, h⟩ | ⟨h1, h2, h⟩
    · exact h
    · exfalso
      unfold bwL smL at hb
      simp only [Bool.or_eq_false_iff, Bool.and_eq_false_iff, decide_eq_false_iff_not] at hb
      omega
  rw [case_cons c r h39, hu]
  match r with
  | [] =>
    refine ⟨rfl, rfl, ?_⟩
    rw [signL_one]
    split
    · rfl
    · show c :: caseL false [] = caseL false [c]
      rw [case_cons c [] h39, hu]
  | d :: r =>
    have one : ∀ x s, (x :: caseL false s = caseL false (d :: r)) → (c :: x :: caseL false s).take (signL [c]) = (c :: d :: r).take (signL [c]) ∧ (c :: x :: caseL false s).drop (signL [c]) = caseL false ((c :: d :: r).drop (signL [c])) := by
      intro x s hx
      rw [signL_one]
      split
      · refine ⟨rfl, ?_⟩
        show x :: caseL false s = caseL false (d :: r)
        exact hx
      · refine ⟨rfl, ?_⟩
        show c :: x :: caseL false s = caseL false (c :: d :: r)
        rw [case_cons c _ h39, hu, hx]
    by_cases hd : d = 39
    · subst hd
      rw [case_q, signL_two, signL_two]
      have hz : ((c == 60 && (39 : Nat) == 62) || (c == 60 && (39 : Nat) == 61) || (c == 62 && (39 : Nat) == 61) || (c == 124 && (39 : Nat) == 124)) = false := by simp
      rw [hz]
      refine ⟨rfl, ?_⟩
      rw [if_neg (by decide)]
      rw [signL_one]
      split
      · refine ⟨rfl, ?_⟩
        show 39 :: caseL true r = caseL false (39 :: r)
        rw [case_q]
      · refine ⟨rfl, ?_⟩
        show c :: 39 :: caseL true r = caseL false (c :: 39 :: r)
        rw [case_cons c _ h39, hu, case_q]
    · rw [case_cons d r hd, signL_two, signL_two, up_eq d 62 (by omega), up_eq d 61 (by omega), up_eq d 124 (by omega)]
      refine ⟨rfl, ?_⟩
      split
      · next q =>
        have hdu : uprL d = d := by
          rcases uprL_cases d with ⟨_, h⟩ | ⟨h1, h2, h⟩
          · exact h
          · exfalso
            simp only [Bool.or_eq_true, Bool.and_eq_true, beq_iff_eq] at q
            omega
        refine ⟨by rw [hdu]; rfl, rfl⟩
      · exact one (uprL d) r (case_cons d r hd).symm
/-- a token begins alike, whatever the case of letters -/
theorem case_tok (c : Nat) (r : List Nat) : tokL (caseL false (c :: r)) = tokL (c :: r) ∧ ∀ t k, tokL (c :: r) = .ok (t, k) → (caseL false (c :: r)).drop k = caseL false ((c :: r).drop k) := by
  by_cases h39 : c = 39
  · subst h39
    rw [case_q, tokL_cons, tokL_cons]
    obtain ⟨h1, h2⟩ := case_text r.length r (Nat.le_refl _)
    unfold tokC
    rw [show bwL 39 = false from rfl, show dgL 39 = false from rfl, h1]
    refine ⟨rfl, fun t k h => ?_⟩
    rw [if_neg (by decide), if_neg (by decide), if_pos rfl] at h
    cases hx : textL r with
    | none => rw [hx] at h; cases h
    | some x =>
      rw [hx] at h
      simp only at h
      split at h
      · cases h
      · injection h with h
        injection h with h3 h4
        subst h4
        rw [List.drop_succ_cons, List.drop_succ_cons, h2 x hx]
  · have hcc := case_cons c r h39
    obtain ⟨w1, w2, w3⟩ := case_run iwL up_iw rfl (c :: r)
    obtain ⟨d1, d2, d3⟩ := case_run dgL up_dg rfl (c :: r)
    have hs := case_sign c r h39
    have hup39 : ¬ uprL c = 39 := fun e => by
      have := up_eq c 39 (by omega)
      rw [e] at this
      simp at this
      exact h39 this
    rw [hcc] at w1 w2 w3 d1 d2 d3 hs ⊢
    rw [tokL_cons, tokL_cons, tokC_eq, tokC_eq, up_bw, up_dg, w1, d1, w2, d2, d3]
    by_cases hb : bwL c = true
    · rw [if_pos hb, if_pos hb, List.map_map, show lowL ∘ uprL = lowL from funext low_up]
      refine ⟨rfl, fun t k h => ?_⟩
      split at h
      · cases h
      · injection h with h
        injection h with h3 h4
        subst h4
        exact w3
    rw [if_neg hb, if_neg hb]
    by_cases hd : dgL c = true
    · rw [if_pos hd, if_pos hd, case_frac]
      have hdig : ∀ l : List Nat, (∀ x ∈ l, dgL x = true) → l.map uprL = l := fun l h => by
        rw [List.map_congr_left (g := id) (fun x hx => ?_), List.map_id]
        rcases uprL_cases x with ⟨_, h'⟩ | ⟨h1, h2, h'⟩
        · exact h'
        · exfalso
          have := (dg_iff x).1 (h x hx)
          omega
      rw [hdig _ (runL_in (c :: r))]
      have hq : fracL ((c :: r).drop (runL dgL (c :: r))) = true → (uprL c :: caseL false r).drop (runL dgL (c :: r) + 1) = caseL false ((c :: r).drop (runL dgL (c :: r) + 1)) := by
        intro hf
        rw [← List.drop_drop, ← List.drop_drop, d3]
        cases hx : (c :: r).drop (runL dgL (c :: r)) with
        | nil => rfl
        | cons p s =>
          have hp : p ≠ 39 := fun e => by
            rw [hx, e] at hf
            cases s <;> simp [fracL] at hf
          rw [case_cons p s hp]
          rfl
      cases hf : fracL ((c :: r).drop (runL dgL (c :: r))) with
      | false =>
        rw [if_neg (show ¬ (false = true) by decide), if_neg (show ¬ (false = true) by decide)]
        refine ⟨rfl, fun t k h => ?_⟩
        split at h
        · cases h
        · injection h with h
          injection h with h3 h4
          subst h4
          exact d3
      | true =>
        rw [if_pos (show true = true from rfl), if_pos (show true = true from rfl), hq hf]
        obtain ⟨e1, e2, e3⟩ := case_run dgL up_dg rfl ((c :: r).drop (runL dgL (c :: r) + 1))
        rw [e1, e2, hdig _ (runL_in _)]
        refine ⟨rfl, fun t k h => ?_⟩
        split at h
        · cases h
        · injection h with h
          injection h with h3 h4
          subst h4
          rw [← List.drop_drop, hq hf, e3, List.drop_drop]
    rw [if_neg hd, if_neg hd, if_neg h39, if_neg hup39]
    obtain ⟨s1, s2, s3⟩ := hs (by simpa using hb)
    rw [s1, s2]
    refine ⟨rfl, fun t k h => ?_⟩
    split at h
    · cases h
    · injection h with h
      injection h with h3 h4
      subst h4
      exact s3
/-- the case of letters outside texts makes no difference to the tokens -/
theorem case_lex : ∀ (n : Nat) (l : List Nat), l.length ≤ n → lexL (caseL false l) = lexL l
  | 0, l, hn => by
    have : l = [] := List.length_eq_zero_iff.1 (by omega)
    subst this
    rfl
  | n + 1, [], hn => rfl
  | n + 1, c :: r, hn => by
    have hl : r.length ≤ n := by simp at hn; omega
    by_cases hb : blL c = true
    · have h39 : c ≠ 39 := by rcases blk_cases hb with rfl | rfl | rfl | rfl <;> decide
      have hu : uprL c = c := by rcases blk_cases hb with rfl | rfl | rfl | rfl <;> rfl
      rw [case_cons c r h39, hu, lexL_blank c _ hb, lexL_blank c r hb]
      exact case_lex n r hl
    · have hb' : blL c = false := by simpa using hb
      obtain ⟨t1, t2⟩ := case_tok c r
      have hhd : ∃ c' r', caseL false (c :: r) = c' :: r' ∧ blL c' = false := by
        by_cases h39 : c = 39
        · subst h39; exact ⟨39, _, case_q r, rfl⟩
        · refine ⟨uprL c, _, case_cons c r h39, ?_⟩
          have : blL (uprL c) = blL c := by
            unfold blL
            rw [up_eq c 32 (by omega), up_eq c 9 (by omega), up_eq c 10 (by omega), up_eq c 13 (by omega)]
          rw [this, hb']
      obtain ⟨c', r', he, hc'⟩ := hhd
      rw [he] at t1 t2 ⊢
      rw [lexL_tok c' r' hc', lexL_tok c r hb', t1]
      cases ht : tokL (c :: r) with
      | error e => rfl
      | ok x =>
        obtain ⟨t, k⟩ := x
        obtain ⟨_, g2, g3⟩ := tokL_app (e := 32) rfl [] (c :: r) t k ht
        simp only
        rw [t2 t k ht, case_lex n _ (by rw [List.length_drop]; simp at g2 ⊢; omega)]
theorem case_toks (l : List Nat) : toksE (caseL false l) = toksE l := by
  unfold toksE
  rw [case_len, case_lex _ l (Nat.le_refl _)]

end Go.Proofs.YtkffomfbnbcgaaaGreatDoor

namespace Go.Proofs.YtkffomfbnbcgaaaGreatDoor
set_option maxRecDepth 100000
open Go.RowKit Go.Joins Go.ChangeShapes Go.WideShapes
set_option linter.unusedVariables false
set_option linter.unusedSimpArgs false

/-- bytes in a block of their own, that may be written -/
def WB (w : World) (b : Nat) (l : List Nat) : Prop := (∃ (cs : Array Value) (fr : Nat × Nat), w.heap[b]? = some (.cells cs 5 fr) ∧ l.length ≤ fr.1 ∧ ∀ (i x : Nat), l[i]? = some x → cs[i]? = some (Value.int .u8 (x : Int))) ∧ ∀ x ∈ l, x < 256
theorem WB.lt {w : World} {b : Nat} {l : List Nat} (h : WB w b l) : b < w.heap.size := by
  obtain ⟨⟨cs, fr, h1, -⟩, -⟩ := h
  exact (Array.getElem?_eq_some_iff.1 h1).1
theorem WB.cell {w : World} {b : Nat} {l : List Nat} (h : WB w b l) {i x : Nat} (hx : l[i]? = some x) : w.cell? ⟨b, i, none⟩ = some (.int .u8 (x : Int)) := by
  obtain ⟨⟨cs, fr, h1, h2, h3⟩, -⟩ := h
  rw [cell_of_block h1]
  exact h3 i x hx
theorem WB.frz {w : World} {b : Nat} {l : List Nat} (h : WB w b l) {i : Nat} (hi : i < l.length) : w.frozen? ⟨b, i, none⟩ = false := by
  obtain ⟨⟨cs, fr, h1, h2, h3⟩, -⟩ := h
  unfold World.frozen?
  rw [h1]
  simp
  omega
theorem WB.set {w : World} {b : Nat} {p r : List Nat} {x : Nat} (h : WB w b (p ++ x :: r)) (y : Nat) (hy : y < 256) : WB (w.setCell ⟨b, p.length, none⟩ (.int .u8 (y : Int))) b (p ++ y :: r) := by
  obtain ⟨⟨cs, fr, h1, h2, h3⟩, h4⟩ := h
  refine ⟨⟨_, fr, box_set h1 p.length _, by simpa using h2, fun i z hz => ?_⟩, fun z hz => ?_⟩
  · have hlt : p.length < cs.size := by
      have := h3 p.length x (by simp)
      exact (Array.getElem?_eq_some_iff.1 this).1
    rw [Array.getElem?_setIfInBounds]
    by_cases c : p.length = i
    · subst c
      rw [if_pos rfl, if_pos hlt]
      simp at hz
      rw [hz]
    · rw [if_neg c]
      refine h3 i z ?_
      rw [← hz]
      by_cases ci : i < p.length
      · rw [List.getElem?_append_left ci, List.getElem?_append_left ci]
      · rw [List.getElem?_append_right (by omega), List.getElem?_append_right (by omega)]
        obtain ⟨j, hj⟩ : ∃ j, i - p.length = j + 1 := ⟨i - p.length - 1, by omega⟩
        rw [hj]
        rfl
  · rcases List.mem_append.1 hz with e | e
    · exact h4 z (List.mem_append_left _ e)
    · rcases List.mem_cons.1 e with rfl | e
      · exact hy
      · exact h4 z (List.mem_append_right _ (List.mem_cons_of_mem _ e))
theorem WB.below {w w1 : World} {b : Nat} {l : List Nat} (h : WB w b l) (hb : Below w.heap.size w w1) : WB w1 b l := by
  have hl := h.lt
  obtain ⟨⟨cs, fr, h1, h2, h3⟩, h4⟩ := h
  exact ⟨⟨cs, fr, (hb.block b hl).trans h1, h2, h3⟩, h4⟩
theorem WB.isB {w : World} {b : Nat} {l : List Nat} (h : WB w b l) : IsB w b 0 l := ⟨fun _ => h.lt, fun i x hx => by rw [Nat.zero_add]; exact h.cell hx, h.2⟩
theorem WB.str {w : World} {b : Nat} {l : List Nat} (h : WB w b l) (n cap : Nat) (hn : l.length = n) : (convert 45 9 (.slice (some ⟨b, 0, none⟩) n cap)).run Tryz.prog w = .ok (.string (strB l)) w := by
  have := str_b h.isB n cap (by omega)
  rw [List.take_of_length_le (by omega)] at this
  exact this
theorem conv_w (s : ByteArray) (w : World) (hs : s.size ≤ maxLen) : ∃ cap w1, (convert 9 45 (.string s)).run Tryz.prog w = .ok (.slice (some ⟨w.heap.size, 0, none⟩) s.size cap) w1 ∧ s.size ≤ cap ∧ cap ≤ maxLen ∧ w1.heap.size = w.heap.size + 1 ∧ Below w.heap.size w w1 ∧ WB w1 w.heap.size (sl s) := by
  refine ⟨grownCap w s.size 0 5, Lib.bytesWorld w 5 s, Lib.run_convert_string_bytes w 9 45 5 s Tryz.underlying9 Tryz.underlying45 Tryz.underlying5, grownCap_ge _ _ _ _, grownCap_le_maxLen _ _ _ _ hs, Lib.bytesWorld_size _ _ _, ⟨rfl, rfl, rfl, by rw [Lib.bytesWorld_size]; omega, fun k hk => Lib.bytesWorld_at_old w _ s k hk⟩, ⟨_, _, Lib.bytesWorld_at_new w _ s, ?_, fun i x hx => ?_⟩, sl_lt s⟩
  · rw [sl_length]
    simp [Lib.bytesCells]
  · have hi : i < s.size := by rw [← sl_length]; exact (List.getElem?_eq_some_iff.1 hx).1
    have h1 := Lib.bytesWorld_cell w 5 s i hi
    rw [cell_of_block (Lib.bytesWorld_at_new w 5 s)] at h1
    rw [h1]
    unfold sl at hx
    rw [List.getElem?_map] at hx
    rw [List.getD_eq_getElem?_getD]
    cases e : s.data.toList[i]? with
    | none => rw [e] at hx; cases hx
    | some b => rw [e] at hx; injection hx with hx; rw [← hx]; rfl

/-- the loop of ParseCase: what is turned, what is left -/
structure CsS (W wr : World) (b : Nat) (l : List Nat) (q : Bool) (p r : List Nat) (n : Nat) : Prop where
  eq : caseL false l = p ++ caseL q r
  len : p.length + r.length = n
  own : WB wr b (p ++ r)
  bel : Below W.heap.size W wr
  new : W.heap.size ≤ b
  sz : W.heap.size ≤ wr.heap.size
theorem CsS.go {W wr : World} {b : Nat} {l : List Nat} {q : Bool} {p r : List Nat} {n x : Nat} (h : CsS W wr b l q p (x :: r) n) (q' : Bool) (y : Nat) (hq : q' = if x = 39 then !q else q) (hy : y = if q' = true then x else uprL x) (hb : y < 256) :
    CsS W (wr.setCell ⟨b, p.length, none⟩ (.int .u8 (y : Int))) b l q' (p ++ [y]) r n := by
  refine ⟨?_, by have := h.len; simp at this ⊢; omega, ?_, h.bel.setCell h.new _, h.new, by simpa using h.sz⟩
  · rw [h.eq, caseL, List.append_assoc, ← hq, ← hy]; rfl
  · rw [List.append_assoc]; exact h.own.set y hb
theorem CsS.stay {W wr : World} {b : Nat} {l : List Nat} {q : Bool} {p r : List Nat} {n x : Nat} (h : CsS W wr b l q p (x :: r) n) (q' : Bool) (hq : q' = if x = 39 then !q else q) (hy : x = if q' = true then x else uprL x) :
    CsS W wr b l q' (p ++ [x]) r n := by
  refine ⟨?_, by have := h.len; simp at this ⊢; omega, ?_, h.bel, h.new, h.sz⟩
  · rw [h.eq, caseL, List.append_assoc, ← hq, ← hy]; rfl
  · rw [List.append_assoc]; exact h.own

/-- what Parse hands out: a statement and the error's number -/
def outR : Except Nat Stm → Stm × Int
  | .ok st => (st, 0)
  | .error c => ({ kind := 0 }, (c : Int))
theorem ParseE.form {w w' : World} {r : Except Nat Stm} {e : Ending} (h : ParseE w r e w') : Below w.heap.size w w' ∧ ∃ x : XSt, e = .returned (.tuple #[x.val, .int .i64 (outR r).2]) ∧ x.er = (outR r).1 ∧ XSt.Mem (GE w.heap.size) w' x := by
  unfold ParseE at h
  obtain ⟨hb, h⟩ := h
  refine ⟨hb, ?_⟩
  cases r with
  | ok st => exact h
  | error c =>
    refine ⟨{ kind := 0 }, h, ?_, ?_⟩
    · show XSt.er { kind := 0 } = ({ kind := 0 } : Stm)
      unfold XSt.er
      simp only [List.map_nil, er0]
    · exact ⟨XL.Mem.nil _ _, XL.Mem.nil _ _, XL.Mem.nil _ _, XL.Mem.nil _ _, XL.Mem.nil _ _, XE.Mem.leaf _ _ _ _ _ _ _ _, XL.Mem.nil _ _, XL.Mem.nil _ _⟩
/-- a statement's box, all zero -/
def z18 : Array Value := #[.int .i64 0, .string ⟨#[]⟩, .string ⟨#[]⟩, .slice none 0 0, .slice none 0 0, .bool false, .slice none 0 0, .slice none 0 0, .slice none 0 0, .int .i64 0, .slice none 0 0, .int .i64 0, .int .i64 0, .int .i64 0, .string ⟨#[]⟩, .string ⟨#[]⟩, .slice none 0 0, .slice none 0 0]
theorem put_st {K : Bl} {w : World} {x : XSt} (hm : XSt.Mem K w x) : ∃ wz, (Instr.storeAt 34 (.pointer (some ⟨w.heap.size, 0, none⟩)) x.val).run Tryz.prog (w.alloc (.cells #[.int .i64 0, .string ⟨#[]⟩, .string ⟨#[]⟩, .slice none 0 0, .slice none 0 0, .bool false, .slice none 0 0, .slice none 0 0, .slice none 0 0, .int .i64 0, .slice none 0 0, .int .i64 0, .int .i64 0, .int .i64 0, .string ⟨#[]⟩, .string ⟨#[]⟩, .slice none 0 0, .slice none 0 0] 34)) = .ok () wz ∧ Below w.heap.size w wz ∧ Bx wz w.heap.size x.enc.toArray 34 ∧ XSt.Mem K wz x := by
  have hn := Bx.new w z18 34
  obtain ⟨wz, hst, fz, bz⟩ := st_V hn rfl x
  have f1 : Frm (fun k => w.heap.size ≤ k) w wz := (Frm.of_below (F := fun k => w.heap.size ≤ k) ((Below.refl _ _).alloc (Nat.le_refl _) _)).trans fz (fun k hk => .inl (Nat.le_of_eq hk.symm))
  have bl : Below w.heap.size w wz := f1.below (fun k hk => hk) (Nat.le_refl _)
  exact ⟨wz, hst, bl, bz, XSt.Mem.frm (Frm.of_below (F := fun _ => False) bl) (fun _ _ e => e) hm⟩
theorem wpLdG {ops : Array Oper} {rest : List Oper} {o : Oper} {a : Act} {w : World} {Q : Exit → Act → World → Prop} (hw : Region.wanted o (yielded ops a.tmps) = true) (x : Operand) (ho : o.op = .load 34 x) {p v : Value} (hx : a.eval x = p)
    (hld : (Instr.loadAt 34 p).run Tryz.prog w = .ok v w) (h : wpList Tryz.prog ops Q rest (a.put o.dst v) w) : wpList Tryz.prog ops Q (o :: rest) a w :=
  wpList_step fun _ hK => by
    rw [if_pos hw]
    unfold Oper.wp execOp
    simp only [ho, hx, Sem.run_bind, Sem.run_pure, Result.andThen_ok, hld]
    exact hK _ _ h
theorem parseS_tot (s : ByteArray) : ∃ n r, parseS n s = some r := by
  unfold parseS
  cases toksE (sl s) with
  | error c => exact ⟨0, _, rfl⟩
  | ok ts => exact parseP_tot isN ts
theorem parseS_same {s t : ByteArray} (h : toksE (sl s) = toksE (sl t)) (n : Nat) : parseS n s = parseS n t := by
  unfold parseS
  rw [h]
theorem up_lt {x : Nat} (h : x < 256) : uprL x < 256 := by
  rcases uprL_cases x with ⟨_, e⟩ | ⟨h1, h2, e⟩
  · rw [e]; exact h
  · rw [e]; omega

end Go.Proofs.YtkffomfbnbcgaaaGreatDoor

namespace Go.Proofs.YtkffomfbnbcgaaaGreatDoor
set_option maxRecDepth 100000
open Go.RowKit Go.Joins Go.ChangeShapes Go.WideShapes
set_option linter.unusedVariables false
set_option linter.unusedSimpArgs false

theorem slx_at (s : ByteArray) (q : Nat) (h : q < s.size) : (sl s)[q]? = some (s[q]'h).toNat := by
  unfold sl
  rw [List.getElem?_map, Array.getElem?_toList, Array.getElem?_eq_getElem h]
  rfl
theorem slx_get (s : ByteArray) (q : Nat) (h : q < s.size) : (sl s).getD q 0 = (s[q]'h).toNat := by
  rw [List.getD_eq_getElem?_getD, slx_at s q h]
  rfl
theorem slx_lt (s : ByteArray) (q : Nat) : (sl s).getD q 0 < 256 := by
  by_cases h : q < s.size
  · rw [slx_get s q h]; exact (s[q]'h).toNat_lt
  · rw [List.getD_eq_getElem?_getD, List.getElem?_eq_none (by rw [sl_length]; omega)]
    decide
set_option maxHeartbeats 1000000 in
theorem rat_any (s : ByteArray) (i : Nat) (w : World) : Calls Tryz.prog 69 #[.string s, .int .i64 (i : Int)] w fun e w' => e = .returned (.int .u8 ((sl s).getD i 0 : Nat)) ∧ w = w' := by
  by_cases h : i < s.size
  · have hx := slx_get s i h
    have hi : (i : Int) < (s.size : Int) := by omega
    rw [hx]
    clear hx
    go_enter Tryz.func69, Tryz.ntmps69
    go_wp2_with fail
    all_goals first | (go_ret; exact ⟨rfl, rfl⟩) | (exfalso; omega)
  · have hi : decide ((i : Int) < (s.size : Int)) = false := by simp; omega
    rw [List.getD_eq_getElem?_getD, List.getElem?_eq_none (by rw [sl_length]; omega)]
    go_enter Tryz.func69, Tryz.ntmps69
    go_wp2_with fail
    go_ret
    exact ⟨rfl, rfl⟩

end Go.Proofs.YtkffomfbnbcgaaaGreatDoor

namespace Go.Proofs.YtkffomfbnbcgaaaGreatDoor
set_option maxRecDepth 100000
open Go.RowKit Go.Joins Go.ChangeShapes Go.WideShapes
set_option linter.unusedVariables false
set_option linter.unusedSimpArgs false

/-- what the document's reader of a token answers -/
def RTok (x : Except Nat (Tk × Nat)) (i : Nat) (w : World) (e : Ending) (w' : World) : Prop := Below w.heap.size w w' ∧ match x with
  | .error er => ∃ j : Int, e = .returned (.tuple #[Tkv 0 ⟨#[]⟩ 0 0, .int .i64 j, .int .i64 (er : Int)])
  | .ok (t, k) => e = .returned (.tuple #[Tkv t.kind (strB t.text) t.num t.scale, .int .i64 ((i + k : Nat) : Int), .int .i64 0])
theorem getD_drop (l : List Nat) (i k : Nat) : (l.drop i).getD k 0 = l.getD (i + k) 0 := by
  rw [List.getD_eq_getElem?_getD, List.getD_eq_getElem?_getD, List.getElem?_drop]
theorem take_snoc (l : List Nat) (k : Nat) (h : k < l.length) : l.take (k + 1) = l.take k ++ [l.getD k 0] := by
  rw [List.take_add_one, List.getElem?_eq_getElem h, List.getD_eq_getElem?_getD, List.getElem?_eq_getElem h]
  rfl
theorem rtok_ret {R : Ending → World → Prop} {fn : Func} (hr : fn.results = #[.cell 4 47, .tmp 5, .tmp 6]) {a : Act} {w : World} {g : Nat} {k n sc j er : Int} {s : ByteArray} (hb : TBox w g k n sc s)
    (h2 : a.tmps[4]?.getD undef = .pointer (some ⟨g, 0, none⟩)) (h3 : a.tmps[5]?.getD undef = .int .i64 j) (h4 : a.tmps[6]?.getD undef = .int .i64 er) (hd : a.defers = []) (hR : R (.returned (.tuple #[Tkv k s n sc, .int .i64 j, .int .i64 er])) w) : bodyPost Tryz.prog fn R .ret a w := by
  obtain ⟨⟨z0, z1, z2, z3⟩, _⟩ := hb.cells
  exact bodyPost_ret (v := .tuple #[Tkv k s n sc, .int .i64 j, .int .i64 er]) (by simp [results, hr, go_sem, z0, z1, z2, z3, h2, h3, h4, Tkv]) hd hR
theorem box4_below {B : Nat} {w w2 : World} (h : Below B w w2) {g : Nat} (hg : B ≤ g) (v0 v1 v2 v3 : Value) : Below B w ((((w2.setCell ⟨g, 0, none⟩ v0).setCell ⟨g, 1, none⟩ v1).setCell ⟨g, 2, none⟩ v2).setCell ⟨g, 3, none⟩ v3) :=
  (((h.setCell hg v0).setCell hg v1).setCell hg v2).setCell hg v3
theorem frac_at (l : List Nat) (k : Nat) : fracL (l.drop k) = (l.getD k 0 == 46 && dgL (l.getD (k + 1) 0)) := by
  have e0 : l.getD k 0 = (l.drop k).getD 0 0 := by rw [getD_drop]; rfl
  have e1 : l.getD (k + 1) 0 = (l.drop k).getD 1 0 := by rw [getD_drop]
  rw [e0, e1]
  cases l.drop k with
  | nil => rfl
  | cons a r =>
    cases r with
    | nil => show false = (a == 46 && dgL 0); rw [show dgL 0 = false from rfl, Bool.and_false]
    | cons d r => rfl
set_option maxHeartbeats 4000000 in
theorem rnumber_any (s : ByteArray) (i0 : Nat) (w : World) (hi : i0 < s.size) (hs : s.size ≤ 4294967296) (hd : dgL ((sl s).getD i0 0) = true) :
    Calls Tryz.prog 72 #[.string s, .int .i64 (i0 : Int)] w (RTok (numE ((sl s).drop i0)) i0 w) := by
  have b1 : Below w.heap.size w (w.alloc (.cells #[.int .i64 0, .string ⟨#[]⟩, .int .i64 0, .int .i64 0] 47)) := (Below.refl _ _).alloc (Nat.le_refl _) _
  have hnew : TBox (w.alloc (.cells #[.int .i64 0, .string ⟨#[]⟩, .int .i64 0, .int .i64 0] 47)) w.heap.size 0 0 0 ⟨#[]⟩ := heap_alloc_new w (.cells #[.int .i64 0, .string ⟨#[]⟩, .int .i64 0, .int .i64 0] 47)
  obtain ⟨⟨e0, e1, e2, e3⟩, f0, f1, f4, f3⟩ := hnew.cells
  have HB := Lib.hid (And.intro b1 hnew)
  obtain ⟨l, hl⟩ : ∃ l, (sl s).drop i0 = l := ⟨_, rfl⟩
  have hll : l.length + i0 = s.size := by rw [← hl, List.length_drop, sl_length]; omega
  have hget : ∀ k, (sl s).getD (i0 + k) 0 = l.getD k 0 := fun k => by rw [← hl, getD_drop]
  have hgx : ∀ (k : Nat) (h : i0 + k < s.size), (s[i0 + k]'h).toNat = l.getD k 0 := fun k h => by rw [← hget, slx_get s _ h]
  have hq0 : 0 < runL dgL l := by
    have h1 : l.getD 0 0 = (sl s).getD i0 0 := (hget 0).symm
    cases hc : l with
    | nil => rw [hc] at hll; simp at hll; omega
    | cons c r =>
      rw [hc] at h1
      have : c = (sl s).getD i0 0 := h1
      rw [runL_cons, if_pos (by rw [this]; exact hd)]
      omega
  rw [hl]
  have hqle := runL_le dgL l
  generalize hP : RTok (numE l) i0 w = P
  have HP := Lib.hid hP
  have HGX := Lib.hid hgx
  have HAT := Lib.hid (fun (k : Nat) (wx : World) => rat_any s (i0 + k) wx)
  have HGET := Lib.hid hget
  clear hP hgx hl hget hd b1 hnew
  have HIN := Lib.hid (runL_in (f := dgL) l)
  have HRA := Lib.hid (runL_at (f := dgL) (by rfl) l)
  generalize hq : runL dgL l = q at *
  have HQ := Lib.hid hq
  clear hq
  go_enter Tryz.func72, Tryz.ntmps72
  go_wp2_with fail
  generalize w.alloc (.cells #[.int .i64 0, .string ⟨#[]⟩, .int .i64 0, .int .i64 0] 47) = w1 at *
  go_loopw [1, 7, 8] (fun i n c wr => ∃ k : Nat, k ≤ q ∧ i = .int .i64 ((i0 + k : Nat) : Int) ∧ c = .int .i64 (k : Int) ∧ n = .int .u64 (decL (l.take (min k 19)) : Nat) ∧ w1 = wr) (fun i _ _ _ => i0 + q - (intOf i).toNat)
  case atStart => exact ⟨0, Nat.zero_le _, rfl, rfl, by simp [decL], by trivial⟩
  case round =>
    obtain ⟨k, hk, rfl, rfl, rfl, rfl⟩ := hrel
    have HA := Lib.hid (HAT.out k w1)
    have hra := HRA.out k hk
    rw [HGET.out] at HA
    have hgx := HGX.out k
    have HFRX := Lib.hid (frac_at l k)
    have hc8 : l.getD k 0 < 256 := by have := slx_lt s (i0 + k); rw [HGET.out] at this; exact this
    have hsn := take_snoc l k
    generalize l.getD k 0 = c at *
    have HD := Lib.hid (rdigit_any c w1 hc8)
    cases hv : dgL c with
    | true =>
      have hkq := hra.1 hv
      have hix : i0 + k < s.size := by omega
      have hsx := hgx hix
      rw [hv] at HD
      have hcd := (dg_iff c).1 hv
      have hu := decL_lt (l.take k) (fun x hx => HIN.out x (List.mem_of_mem_take (by
        rw [show l.take k = (l.take q).take k by rw [List.take_take]; congr 1; omega] at hx
        exact hx)))
      have hki : (k : Int) + 1 = ((k + 1 : Nat) : Int) := by omega
      have HSN := Lib.hid (hsn (by omega))
      clear hra hgx hsn
      by_cases h20 : k + 1 < 20
      · have hmin : min k 19 = k := by omega
        rw [hmin]
        have hn1 : decL (l.take k) < 10 ^ 18 := Nat.lt_of_lt_of_le hu (Nat.pow_le_pow_right (by omega) (by rw [List.length_take]; omega))
        have hd1 : decL (l.take (min (k + 1) 19)) = decL (l.take k) * 10 + (c - 48) := by
          rw [show min (k + 1) 19 = k + 1 by omega, HSN.out, decL_snoc]
        generalize decL (l.take k) = N at *
        have HD1 := Lib.hid hd1
        obtain ⟨d, hdd⟩ : ∃ d, c - 48 = d := ⟨_, rfl⟩
        have hd9 : d ≤ 9 := by omega
        have w1' : IntKind.u64.wrap ((N : Int) * 10) = ((N * 10 : Nat) : Int) := by rw [IntKind.wrap_u64]; omega
        have w2' : IntKind.u8.wrap ((c : Int) - 48) = (d : Int) := by rw [IntKind.wrap_u8]; omega
        have w3' : IntKind.u64.wrap (d : Int) = (d : Int) := by rw [IntKind.wrap_u64]; omega
        have w4' : IntKind.u64.wrap (((N * 10 : Nat) : Int) + (d : Int)) = ((N * 10 + d : Nat) : Int) := by rw [IntKind.wrap_u64]; omega
        have w5' : IntKind.i64.wrap ((k : Int) + 1) = ((k + 1 : Nat) : Int) := by rw [IntKind.wrap_i64]; omega
        have w6' : IntKind.i64.wrap (((i0 + k : Nat) : Int) + 1) = ((i0 + (k + 1) : Nat) : Int) := by rw [IntKind.wrap_i64]; omega
        have k20 : decide (((k + 1 : Nat) : Int) < 20) = true := by simp; omega
        have HDD := Lib.hid hdd
        clear hd1 hmin hu hdd hki
        go_wp2_with (first | (go_at_call 69; refine HA.out.mono ?_; rintro e w' ⟨rfl, rfl⟩) | (go_at_call 70; refine HD.out.mono ?_; rintro e w' ⟨rfl, rfl⟩))
        all_goals first
          | (exfalso; omega)
          | exact ⟨⟨k + 1, hkq, by congr 1, by congr 1, by rw [HD1.out, HDD.out]; congr 1, by trivial⟩, by simp [intOf]; omega⟩
      · have hd1 : decL (l.take (min (k + 1) 19)) = decL (l.take (min k 19)) := by
          rw [show min (k + 1) 19 = min k 19 by omega]
        have HD1 := Lib.hid hd1
        generalize decL (l.take (min k 19)) = N at *
        have w5' : IntKind.i64.wrap ((k : Int) + 1) = ((k + 1 : Nat) : Int) := by rw [IntKind.wrap_i64]; omega
        have w6' : IntKind.i64.wrap (((i0 + k : Nat) : Int) + 1) = ((i0 + (k + 1) : Nat) : Int) := by rw [IntKind.wrap_i64]; omega
        have k20 : decide (((k + 1 : Nat) : Int) < 20) = false := by simp; omega
        clear hd1 hu hki
        go_wp2_with (first | (go_at_call 69; refine HA.out.mono ?_; rintro e w' ⟨rfl, rfl⟩) | (go_at_call 70; refine HD.out.mono ?_; rintro e w' ⟨rfl, rfl⟩))
        all_goals first
          | (exfalso; omega)
          | exact ⟨⟨k + 1, hkq, by congr 1, by congr 1, by rw [HD1.out], by trivial⟩, by simp [intOf]; omega⟩
    | false =>
      have hkq := hra.2 hv
      rw [hv] at HD
      subst hkq
      clear hra hsn hgx
      have hP1 := HP.out
      unfold numE at hP1
      rw [HQ.out] at hP1
      have HA1 := Lib.hid (HAT.out (k + 1) w1)
      rw [HGET.out] at HA1
      have hc1 : l.getD (k + 1) 0 < 256 := by have := slx_lt s (i0 + (k + 1)); rw [HGET.out] at this; exact this
      have HDg1 := Lib.hid (rdigit_any (l.getD (k + 1) 0) w1 hc1)
      have hfr : fracL (l.drop k) = (c == 46 && dgL (l.getD (k + 1) 0)) := HFRX.out
      obtain ⟨d1, hd1⟩ : ∃ d1, l.getD (k + 1) 0 = d1 := ⟨_, rfl⟩
      rw [hd1] at HA1 HDg1 hfr hc1
      obtain ⟨N, hN⟩ : ∃ N, decL (l.take (min k 19)) = N := ⟨_, rfl⟩
      rw [hN]
      have hNN : N < 10 ^ 19 := by
        rw [← hN]
        exact Nat.lt_of_lt_of_le (decL_lt _ (fun x hx => HIN.out x (by
          rw [show l.take (min k 19) = (l.take k).take 19 by rw [List.take_take, Nat.min_comm]] at hx
          exact List.mem_of_mem_take hx))) (Nat.pow_le_pow_right (by omega) (by rw [List.length_take]; omega))
      rw [hfr] at hP1
      have hmin : k ≤ 19 → N = decL (l.take k) := fun h => by rw [← hN, Nat.min_eq_left h]
      have HMIN := Lib.hid hmin
      have w6' : IntKind.i64.wrap (((i0 + k : Nat) : Int) + 1) = ((i0 + (k + 1) : Nat) : Int) := by rw [IntKind.wrap_i64]; omega
      have hG : (decide ((19 : Int) < (k : Int)) = true ∧ 19 < k) ∨ (decide ((19 : Int) < (k : Int)) = false ∧ decide ((9223372036854775808 : Int) ≤ (N : Int)) = true ∧ ¬ 19 < k ∧ 9223372036854775808 ≤ N) ∨ (decide ((19 : Int) < (k : Int)) = false ∧ decide ((9223372036854775808 : Int) ≤ (N : Int)) = false ∧ ¬ 19 < k ∧ ¬ 9223372036854775808 ≤ N) := by
        by_cases a : 19 < k
        · exact .inl ⟨by simp; omega, a⟩
        · by_cases b : 9223372036854775808 ≤ N
          · exact .inr (.inl ⟨by simp; omega, by simp; omega, a, b⟩)
          · exact .inr (.inr ⟨by simp; omega, by simp; omega, a, b⟩)
      have bA := HB.out.1
      have bB := HB.out.2
      have hz := box4_below (B := w.heap.size) bA (Nat.le_refl _)
      clear hN hmin hfr
      cases hc46 : (c == 46) with
      | false =>
        have q46 : ((c : Int) != 46) = true := by rw [bne, show ((c : Int) == 46) = (c == 46) from eqi c 46, hc46]; rfl
        rw [hc46, Bool.false_and, if_neg (by decide)] at hP1
        have HErr : Hid (19 < k ∨ 9223372036854775808 ≤ N → ∀ j : Int, P (.returned (.tuple #[Tkv 0 ⟨#[]⟩ 0 0, .int .i64 j, .int .i64 11])) ((((w1.setCell ⟨w.heap.size, 0, none⟩ (.int .i64 0)).setCell ⟨w.heap.size, 1, none⟩ (.string ⟨#[]⟩)).setCell ⟨w.heap.size, 2, none⟩ (.int .i64 0)).setCell ⟨w.heap.size, 3, none⟩ (.int .i64 0))) := Lib.hid (by
          intro h j
          rw [if_pos (by by_cases h19 : k ≤ 19; (have := HMIN.out h19; omega); omega)] at hP1
          rw [← hP1]
          exact ⟨hz _ _ _ _, j, rfl⟩)
        have HOk : Hid (¬ 19 < k ∧ ¬ 9223372036854775808 ≤ N → P (.returned (.tuple #[Tkv 2 ⟨#[]⟩ (N : Int) 0, .int .i64 ((i0 + k : Nat) : Int), .int .i64 0])) ((((w1.setCell ⟨w.heap.size, 0, none⟩ (.int .i64 2)).setCell ⟨w.heap.size, 1, none⟩ (.string ⟨#[]⟩)).setCell ⟨w.heap.size, 2, none⟩ (.int .i64 N)).setCell ⟨w.heap.size, 3, none⟩ (.int .i64 0))) := Lib.hid (by
          intro h
          have := HMIN.out (by omega)
          rw [if_neg (by omega), ← this] at hP1
          rw [← hP1]
          exact ⟨hz _ _ _ _, rfl⟩)
        clear hP1 hz bA
        rcases hG with ⟨g1, g3⟩ | ⟨g1, g2, g3, g4⟩ | ⟨g1, g2, g3, g4⟩
        · go_wp2_with (first | (go_at_call 69; refine HA.out.mono ?_; rintro e w' ⟨rfl, rfl⟩) | (go_at_call 70; refine HD.out.mono ?_; rintro e w' ⟨rfl, rfl⟩))
          exact rtok_ret Tryz.results72 (box_four bB _ _ _ _) rfl rfl rfl rfl (HErr.out (.inl g3) _)
        · go_wp2_with (first | (go_at_call 69; refine HA.out.mono ?_; rintro e w' ⟨rfl, rfl⟩) | (go_at_call 70; refine HD.out.mono ?_; rintro e w' ⟨rfl, rfl⟩))
          exact rtok_ret Tryz.results72 (box_four bB _ _ _ _) rfl rfl rfl rfl (HErr.out (.inr g4) _)
        · have wN : IntKind.i64.wrap (N : Int) = (N : Int) := by rw [IntKind.wrap_i64]; omega
          go_wp2_with (first | (go_at_call 69; refine HA.out.mono ?_; rintro e w' ⟨rfl, rfl⟩) | (go_at_call 70; refine HD.out.mono ?_; rintro e w' ⟨rfl, rfl⟩))
          exact rtok_ret Tryz.results72 (box_four bB _ _ _ _) rfl rfl rfl rfl (HOk.out ⟨g3, g4⟩)
      | true =>
        have q46 : ((c : Int) != 46) = false := by rw [bne, show ((c : Int) == 46) = (c == 46) from eqi c 46, hc46]; rfl
        rw [hc46, Bool.true_and] at hP1
        cases hd46 : dgL d1 with
        | false =>
          rw [hd46] at HDg1
          rw [hd46, if_neg (by decide)] at hP1
          have HErr : Hid (19 < k ∨ 9223372036854775808 ≤ N → ∀ j : Int, P (.returned (.tuple #[Tkv 0 ⟨#[]⟩ 0 0, .int .i64 j, .int .i64 11])) ((((w1.setCell ⟨w.heap.size, 0, none⟩ (.int .i64 0)).setCell ⟨w.heap.size, 1, none⟩ (.string ⟨#[]⟩)).setCell ⟨w.heap.size, 2, none⟩ (.int .i64 0)).setCell ⟨w.heap.size, 3, none⟩ (.int .i64 0))) := Lib.hid (by
            intro h j
            rw [if_pos (by by_cases h19 : k ≤ 19; (have := HMIN.out h19; omega); omega)] at hP1
            rw [← hP1]
            exact ⟨hz _ _ _ _, j, rfl⟩)
          have HOk : Hid (¬ 19 < k ∧ ¬ 9223372036854775808 ≤ N → P (.returned (.tuple #[Tkv 2 ⟨#[]⟩ (N : Int) 0, .int .i64 ((i0 + k : Nat) : Int), .int .i64 0])) ((((w1.setCell ⟨w.heap.size, 0, none⟩ (.int .i64 2)).setCell ⟨w.heap.size, 1, none⟩ (.string ⟨#[]⟩)).setCell ⟨w.heap.size, 2, none⟩ (.int .i64 N)).setCell ⟨w.heap.size, 3, none⟩ (.int .i64 0))) := Lib.hid (by
            intro h
            have := HMIN.out (by omega)
            rw [if_neg (by omega), ← this] at hP1
            rw [← hP1]
            exact ⟨hz _ _ _ _, rfl⟩)
          have w7' : IntKind.i64.wrap ((i0 : Int) + (k : Int) + 1) = (i0 : Int) + (k : Int) + 1 := by rw [IntKind.wrap_i64]; omega
          clear hP1 hz bA
          rcases hG with ⟨g1, g3⟩ | ⟨g1, g2, g3, g4⟩ | ⟨g1, g2, g3, g4⟩
          · go_wp2_with fail
            try go_at_call 69
            refine HA.out.mono ?_
            rintro e w' ⟨rfl, rfl⟩
            go_wp2_with fail
            try go_at_call 70
            refine HD.out.mono ?_
            rintro e w' ⟨rfl, rfl⟩
            go_wp2_with fail
            try go_at_call 69
            refine HA.out.mono ?_
            rintro e w' ⟨rfl, rfl⟩
            go_wp2_with fail
            try go_at_call 69
            refine HA1.out.mono ?_
            rintro e w' ⟨rfl, rfl⟩
            go_wp2_with fail
            try go_at_call 70
            refine HDg1.out.mono ?_
            rintro e w' ⟨rfl, rfl⟩
            go_wp2_with fail
            exact rtok_ret Tryz.results72 (box_four bB _ _ _ _) rfl rfl rfl rfl (HErr.out (.inl g3) _)
          · go_wp2_with fail
            try go_at_call 69
            refine HA.out.mono ?_
            rintro e w' ⟨rfl, rfl⟩
            go_wp2_with fail
            try go_at_call 70
            refine HD.out.mono ?_
            rintro e w' ⟨rfl, rfl⟩
            go_wp2_with fail
            try go_at_call 69
            refine HA.out.mono ?_
            rintro e w' ⟨rfl, rfl⟩
            go_wp2_with fail
            try go_at_call 69
            refine HA1.out.mono ?_
            rintro e w' ⟨rfl, rfl⟩
            go_wp2_with fail
            try go_at_call 70
            refine HDg1.out.mono ?_
            rintro e w' ⟨rfl, rfl⟩
            go_wp2_with fail
            exact rtok_ret Tryz.results72 (box_four bB _ _ _ _) rfl rfl rfl rfl (HErr.out (.inr g4) _)
          · have wN : IntKind.i64.wrap (N : Int) = (N : Int) := by rw [IntKind.wrap_i64]; omega
            go_wp2_with fail
            try go_at_call 69
            refine HA.out.mono ?_
            rintro e w' ⟨rfl, rfl⟩
            go_wp2_with fail
            try go_at_call 70
            refine HD.out.mono ?_
            rintro e w' ⟨rfl, rfl⟩
            go_wp2_with fail
            try go_at_call 69
            refine HA.out.mono ?_
            rintro e w' ⟨rfl, rfl⟩
            go_wp2_with fail
            try go_at_call 69
            refine HA1.out.mono ?_
            rintro e w' ⟨rfl, rfl⟩
            go_wp2_with fail
            try go_at_call 70
            refine HDg1.out.mono ?_
            rintro e w' ⟨rfl, rfl⟩
            go_wp2_with fail
            exact rtok_ret Tryz.results72 (box_four bB _ _ _ _) rfl rfl rfl rfl (HOk.out ⟨g3, g4⟩)
        | true =>
          rw [hd46] at HDg1
          rw [hd46, if_pos rfl] at hP1
          obtain ⟨l2, hl2⟩ : ∃ l2, l.drop (k + 1) = l2 := ⟨_, rfl⟩
          rw [hl2] at hP1
          have hl2l : l2.length + (k + 1) = l.length := by
            rw [← hl2, List.length_drop]
            have : k + 1 < l.length := by
              refine Nat.lt_of_not_le fun hle => ?_
              rw [List.getD_eq_getElem?_getD, List.getElem?_eq_none (by omega)] at hd1
              rw [← hd1] at hd46
              cases hd46
            omega
          have hg2 : ∀ j, l.getD (k + 1 + j) 0 = l2.getD j 0 := fun j => by rw [← hl2, getD_drop]
          have HRA2 := Lib.hid (runL_at (f := dgL) (by rfl) l2)
          have HIN2 := Lib.hid (runL_in (f := dgL) l2)
          have hf2 := runL_le dgL l2
          have HG2 := Lib.hid hg2
          have w7' : IntKind.i64.wrap ((i0 : Int) + (k : Int) + 1) = (i0 : Int) + (k : Int) + 1 := by rw [IntKind.wrap_i64]; omega
          generalize hf : runL dgL l2 = f at *
          have HP1 := Lib.hid hP1
          have HL2 := Lib.hid hl2l
          have hzH := Lib.hid hz
          clear hP1 hz bA hl2 hg2 hf
          rcases hG with ⟨g1, g3⟩ | ⟨g1, g2, g3, g4⟩ | ⟨g1, g2, g3, g4⟩
          all_goals
            go_wp2_with fail
            try go_at_call 69
            refine HA.out.mono ?_
            rintro e w' ⟨rfl, rfl⟩
            go_wp2_with fail
            try go_at_call 70
            refine HD.out.mono ?_
            rintro e w' ⟨rfl, rfl⟩
            go_wp2_with fail
            try go_at_call 69
            refine HA.out.mono ?_
            rintro e w' ⟨rfl, rfl⟩
            go_wp2_with fail
            try go_at_call 69
            refine HA1.out.mono ?_
            rintro e w' ⟨rfl, rfl⟩
            go_wp2_with fail
            try go_at_call 70
            refine HDg1.out.mono ?_
            rintro e w' ⟨rfl, rfl⟩
            go_wp2_with fail
            clear HA HD HA1 HDg1 g1
            go_loopw [1, 7, 10] (fun i n sc wr => ∃ j M : Nat, j ≤ f ∧ i = .int .i64 ((i0 + (k + 1 + j) : Nat) : Int) ∧ n = .int .u64 (M : Int) ∧ M < 18446744073709551616 ∧ Hid (k + j ≤ 15 → M = decL (l.take k ++ l2.take j)) ∧ sc = .int .i64 (j : Int) ∧ w1 = wr) (fun i _ _ _ => i0 + k + 1 + f - (intOf i).toNat)
            case atStart => exact ⟨0, N, Nat.zero_le _, by congr 1, rfl, by omega, Lib.hid (fun h => by rw [List.take_zero, List.append_nil]; exact HMIN.out (by omega)), rfl, by trivial⟩
            case round =>
              obtain ⟨j, M, hj, rfl, rfl, hM, hMJ, rfl, rfl⟩ := hrel
              have HA2 := Lib.hid (HAT.out (k + 1 + j) w1)
              rw [HGET.out, HG2.out] at HA2
              have hra := HRA2.out j hj
              have hgx := HGX.out (k + 1 + j)
              rw [HG2.out] at hgx
              have hc8 : l2.getD j 0 < 256 := by have := slx_lt s (i0 + (k + 1 + j)); rw [HGET.out, HG2.out] at this; exact this
              have hsn := take_snoc l2 j
              generalize l2.getD j 0 = c2 at *
              have HD2 := Lib.hid (rdigit_any c2 w1 hc8)
              cases hv2 : dgL c2 with
              | true =>
                have hjf := hra.1 hv2
                rw [hv2] at HD2
                have hix : i0 + (k + 1 + j) < s.size := by have := HL2.out; omega
                have hsx := hgx hix
                have hcd := (dg_iff c2).1 hv2
                have HSN := Lib.hid (hsn (by omega))
                clear hra hgx hsn
                have w5' : IntKind.i64.wrap ((j : Int) + 1) = (j : Int) + 1 := by rw [IntKind.wrap_i64]; omega
                have w8' : IntKind.i64.wrap ((k : Int) + ((j : Int) + 1)) = (k : Int) + ((j : Int) + 1) := by rw [IntKind.wrap_i64]; omega
                have w9' : IntKind.i64.wrap ((i0 : Int) + ((k : Int) + 1 + (j : Int)) + 1) = (i0 : Int) + ((k : Int) + 1 + (j : Int)) + 1 := by rw [IntKind.wrap_i64]; omega
                by_cases h16 : k + (j + 1) < 16
                · have k16 : decide ((k : Int) + ((j : Int) + 1) < 16) = true := by simp; omega
                  have hMd := hMJ.out (by omega)
                  have hMb : M < 10 ^ 14 := by
                    rw [hMd]
                    exact Nat.lt_of_lt_of_le (decL_lt _ (fun x hx => by
                      rcases List.mem_append.1 hx with g | g
                      · exact HIN.out x g
                      · exact HIN2.out x (List.mem_of_mem_take (by
                          rw [show l2.take j = (l2.take f).take j by rw [List.take_take]; congr 1; omega] at g
                          exact g)))) (Nat.pow_le_pow_right (by omega) (by rw [List.length_append, List.length_take, List.length_take]; omega))
                  obtain ⟨d, hdd⟩ : ∃ d, c2 - 48 = d := ⟨_, rfl⟩
                  have hd9 : d ≤ 9 := by omega
                  have hM2 : M * 10 + d = decL (l.take k ++ l2.take (j + 1)) := by
                    rw [HSN.out, ← List.append_assoc, decL_snoc, ← hMd, hdd]
                  have HM2 := Lib.hid hM2
                  have w1' : IntKind.u64.wrap ((M : Int) * 10) = (M : Int) * 10 := by rw [IntKind.wrap_u64]; omega
                  have w2' : IntKind.u8.wrap ((c2 : Int) - 48) = (d : Int) := by rw [IntKind.wrap_u8]; omega
                  have w3' : IntKind.u64.wrap (d : Int) = (d : Int) := by rw [IntKind.wrap_u64]; omega
                  have w4' : IntKind.u64.wrap ((M : Int) * 10 + (d : Int)) = (M : Int) * 10 + (d : Int) := by rw [IntKind.wrap_u64]; omega
                  have HDD := Lib.hid hdd
                  clear hMd hM2 hdd
                  go_wp2_with fail
                  try go_at_call 69
                  refine HA2.out.mono ?_
                  rintro e w' ⟨rfl, rfl⟩
                  go_wp2_with fail
                  try go_at_call 70
                  refine HD2.out.mono ?_
                  rintro e w' ⟨rfl, rfl⟩
                  go_wp2_with fail
                  all_goals first
                    | (exfalso; omega)
                    | exact ⟨⟨j + 1, M * 10 + d, hjf, by congr 1, by congr 1, by omega, Lib.hid (fun _ => HM2.out), by congr 1, by trivial⟩, by simp [intOf]; omega⟩
                · have k16 : decide ((k : Int) + ((j : Int) + 1) < 16) = false := by simp; omega
                  go_wp2_with fail
                  try go_at_call 69
                  refine HA2.out.mono ?_
                  rintro e w' ⟨rfl, rfl⟩
                  go_wp2_with fail
                  try go_at_call 70
                  refine HD2.out.mono ?_
                  rintro e w' ⟨rfl, rfl⟩
                  go_wp2_with fail
                  all_goals first
                    | (exfalso; omega)
                    | exact ⟨⟨j + 1, M, hjf, by congr 1, rfl, hM, Lib.hid (fun h => absurd h (by omega)), by congr 1, by trivial⟩, by simp [intOf]; omega⟩
              | false =>
                have hjf := hra.2 hv2
                rw [hv2] at HD2
                subst hjf
                clear hra hgx hsn
                have w8' : IntKind.i64.wrap ((k : Int) + (j : Int)) = (k : Int) + (j : Int) := by rw [IntKind.wrap_i64]; omega
                have hP1 := HP1.out
                by_cases h15 : k + j > 15
                · have k15 : decide ((15 : Int) < (k : Int) + (j : Int)) = true := by simp; omega
                  rw [if_pos h15] at hP1
                  have HX : Hid (∀ q : Int, P (.returned (.tuple #[Tkv 0 ⟨#[]⟩ 0 0, .int .i64 q, .int .i64 11])) ((((w1.setCell ⟨w.heap.size, 0, none⟩ (.int .i64 0)).setCell ⟨w.heap.size, 1, none⟩ (.string ⟨#[]⟩)).setCell ⟨w.heap.size, 2, none⟩ (.int .i64 0)).setCell ⟨w.heap.size, 3, none⟩ (.int .i64 0))) := Lib.hid (by
                    intro q
                    rw [← hP1]
                    exact ⟨hzH.out _ _ _ _, q, rfl⟩)
                  clear hP1
                  go_wp2_with fail
                  try go_at_call 69
                  refine HA2.out.mono ?_
                  rintro e w' ⟨rfl, rfl⟩
                  go_wp2_with fail
                  try go_at_call 70
                  refine HD2.out.mono ?_
                  rintro e w' ⟨rfl, rfl⟩
                  go_wp2_with fail
                  exact rtok_ret Tryz.results72 (box_four bB _ _ _ _) rfl rfl rfl rfl (HX.out _)
                · first
                  | exact absurd g3 (by omega)
                  | (have k15 : decide ((15 : Int) < (k : Int) + (j : Int)) = false := by simp; omega
                     have hMd := hMJ.out (by omega)
                     have hMb : M < 10 ^ 15 := by
                       rw [hMd]
                       exact Nat.lt_of_lt_of_le (decL_lt _ (fun x hx => by
                         rcases List.mem_append.1 hx with g | g
                         · exact HIN.out x g
                         · exact HIN2.out x g)) (Nat.pow_le_pow_right (by omega) (by rw [List.length_append, List.length_take, List.length_take]; omega))
                     have wN : IntKind.i64.wrap (M : Int) = (M : Int) := by rw [IntKind.wrap_i64]; omega
                     rw [if_neg h15, ← hMd] at hP1
                     have HX : Hid (P (.returned (.tuple #[Tkv 3 ⟨#[]⟩ (M : Int) (j : Int), .int .i64 ((i0 : Int) + ((k : Int) + 1 + (j : Int))), .int .i64 0])) ((((w1.setCell ⟨w.heap.size, 0, none⟩ (.int .i64 3)).setCell ⟨w.heap.size, 1, none⟩ (.string ⟨#[]⟩)).setCell ⟨w.heap.size, 2, none⟩ (.int .i64 (M : Int))).setCell ⟨w.heap.size, 3, none⟩ (.int .i64 (j : Int)))) := Lib.hid (by
                       rw [← hP1]
                       exact ⟨hzH.out _ _ _ _, by congr 1⟩)
                     clear hP1 hMd
                     go_wp2_with fail
                     try go_at_call 69
                     refine HA2.out.mono ?_
                     rintro e w' ⟨rfl, rfl⟩
                     go_wp2_with fail
                     try go_at_call 70
                     refine HD2.out.mono ?_
                     rintro e w' ⟨rfl, rfl⟩
                     go_wp2_with fail
                     exact rtok_ret Tryz.results72 (box_four bB _ _ _ _) rfl rfl rfl rfl HX.out)

end Go.Proofs.YtkffomfbnbcgaaaGreatDoor

namespace Go.Proofs.YtkffomfbnbcgaaaGreatDoor
set_option maxRecDepth 100000
open Go.RowKit Go.Joins Go.ChangeShapes Go.WideShapes
set_option linter.unusedVariables false
set_option linter.unusedSimpArgs false

def txtR (r : List Nat) : Except Nat (Tk × Nat) := match textL r with
  | none => .error 121
  | some x => if x.1.length > 200 then .error 1 else .ok (⟨4, x.1, 0, 0⟩, x.2)
/-- how the text's loop stands -/
structure RxS (w wr : World) (l : List Nat) (v : Value) (acc : List Nat) (k : Nat) : Prop where
  own : OwB wr (w.heap.size + 1) v acc
  kl : k ≤ l.length
  al : acc.length ≤ k
  eq : textL l = (textL (l.drop k)).map (fun x => (acc ++ x.1, k + x.2))
  bel : Below w.heap.size w wr
  sz : w.heap.size + 1 ≤ wr.heap.size
  bx : TBox wr w.heap.size 0 0 0 ⟨#[]⟩
theorem drop_getD (l : List Nat) (k : Nat) (h : k < l.length) : l.drop k = l.getD k 0 :: l.drop (k + 1) := by
  rw [List.drop_eq_getElem_cons h, List.getD_eq_getElem?_getD, List.getElem?_eq_getElem h]
  rfl
theorem getD_out (l : List Nat) (k : Nat) (h : ¬ k < l.length) : l.getD k 0 = 0 := by
  rw [List.getD_eq_getElem?_getD, List.getElem?_eq_none (by omega)]
  rfl
set_option maxHeartbeats 4000000 in
theorem rtext_any (s : ByteArray) (i0 : Nat) (w : World) (hi : i0 ≤ s.size) (hs : s.size ≤ 4294967296) :
    Calls Tryz.prog 73 #[.string s, .int .i64 (i0 : Int)] w (RTok (txtR ((sl s).drop i0)) i0 w) := by
  have b1 : Below w.heap.size w (w.alloc (.cells #[.int .i64 0, .string ⟨#[]⟩, .int .i64 0, .int .i64 0] 47)) := (Below.refl _ _).alloc (Nat.le_refl _) _
  have hnew : TBox (w.alloc (.cells #[.int .i64 0, .string ⟨#[]⟩, .int .i64 0, .int .i64 0] 47)) w.heap.size 0 0 0 ⟨#[]⟩ := heap_alloc_new w (.cells #[.int .i64 0, .string ⟨#[]⟩, .int .i64 0, .int .i64 0] 47)
  obtain ⟨l, hl⟩ : ∃ l, (sl s).drop i0 = l := ⟨_, rfl⟩
  have hll : l.length + i0 = s.size := by rw [← hl, List.length_drop, sl_length]; omega
  have hget : ∀ k, (sl s).getD (i0 + k) 0 = l.getD k 0 := fun k => by rw [← hl, getD_drop]
  have hgx : ∀ (k : Nat) (h : i0 + k < s.size), (s[i0 + k]'h).toNat = l.getD k 0 := fun k h => by rw [← hget, slx_get s _ h]
  rw [hl]
  have HS0 : Hid (RxS w ((w.alloc (.cells #[.int .i64 0, .string ⟨#[]⟩, .int .i64 0, .int .i64 0] 47)).alloc (.cells #[] 5)) l (.slice (some ⟨w.heap.size + 1, 0, none⟩) 0 0) [] 0) := Lib.hid
    ⟨⟨by
        have := World.ownsRow_made (w.alloc (.cells #[.int .i64 0, .string ⟨#[]⟩, .int .i64 0, .int .i64 0] 47)) #[] 0 (base := w.heap.size + 1) (e := 5) (size := 1) (by simp) (by decide) rfl
        simpa [bcells] using this, by simp⟩, Nat.zero_le _, Nat.zero_le _, by rw [List.drop_zero]; cases textL l <;> simp, b1.alloc (by simp) _, by simp, hnew.below ((Below.refl _ _).alloc (Nat.le_refl _) _)⟩
  generalize hP : RTok (txtR l) i0 w = P
  have HP := Lib.hid hP
  have HGX := Lib.hid hgx
  have HAT := Lib.hid (fun (k : Nat) (wx : World) => rat_any s (i0 + k) wx)
  have HGET := Lib.hid hget
  clear hP hgx hl hget b1 hnew
  go_enter Tryz.func73, Tryz.ntmps73
  go_wp2_with fail
  go_loopw [1, 7] (fun i v wr => ∃ k acc, i = .int .i64 ((i0 + k : Nat) : Int) ∧ RxS w wr l v acc k) (fun i _ _ => i0 + l.length - (intOf i).toNat)
  case atStart => exact ⟨0, [], rfl, by simpa using HS0.out⟩
  case round =>
    obtain ⟨k, acc, rfl, hs⟩ := hrel
    have HS := Lib.hid hs
    have hkl := hs.kl
    obtain ⟨⟨e0, e1, e2, e3⟩, f0, f1, f4, f3⟩ := hs.bx.cells
    clear hs
    by_cases hk : k < l.length
    · have hix : i0 + k < s.size := by omega
      have hki : decide (((i0 + k : Nat) : Int) < (s.size : Int)) = true := by simp; omega
      have hsx := HGX.out k hix
      have hdk := drop_getD l k hk
      have hc8 : l.getD k 0 < 256 := by have := slx_lt s (i0 + k); rw [HGET.out] at this; exact this
      generalize l.getD k 0 = c at *
      have HDK := Lib.hid hdk
      clear hdk
      by_cases h39 : c = 39
      · subst h39
        have HA1 := Lib.hid (HAT.out (k + 1) wr)
        rw [HGET.out] at HA1
        have hd8 : l.getD (k + 1) 0 < 256 := by have := slx_lt s (i0 + (k + 1)); rw [HGET.out] at this; exact this
        have hd2 := fun h => drop_getD l (k + 1) h
        have hd3 := fun h => getD_out l (k + 1) h
        have w7' : IntKind.i64.wrap ((i0 : Int) + (k : Int) + 1) = (i0 : Int) + (k : Int) + 1 := by rw [IntKind.wrap_i64]; omega
        obtain ⟨d, hdd⟩ : ∃ d, l.getD (k + 1) 0 = d := ⟨_, rfl⟩
        rw [hdd] at HA1 hd8 hd2 hd3
        by_cases hd39 : d = 39
        · subst hd39
          have hk1 : k + 1 < l.length := by
            refine Nat.lt_of_not_le fun h => ?_
            have := hd3 (by omega)
            omega
          have hix1 : i0 + (k + 1) < s.size := by omega
          have hsx1 : (s[i0 + k + 1]'(by omega)).toNat = 39 := HGX.out (k + 1) hix1 |>.trans hdd
          have HDD1 := Lib.hid (hd2 hk1)
          clear hd2 hd3 hdd
          have w8' : IntKind.i64.wrap ((i0 : Int) + (k : Int) + 1 + 1) = (i0 : Int) + (k : Int) + 1 + 1 := by rw [IntKind.wrap_i64]; omega
          go_wp2_with fail
          try go_at_call 69
          refine HA1.out.mono ?_
          rintro e w' ⟨rfl, rfl⟩
          go_wp2_with (first | (at_builtin; refine wp_push rfl _ _ rfl (w.heap.size + 1) u7 acc rfl (HS.out.own.alloc _) ⟨wr.heap.size, 0, none⟩ 1 1 [39] rfl rfl (news1' wr 39 _ (by first | rfl | simp)) (by have := HS.out.al; omega) (by have := HS.out.sz; simp; omega) ?_; intro v2 w2 own2 gr2; have HX2 := Lib.hid (And.intro own2 gr2); clear own2 gr2))
          have hb2 : Below w.heap.size w w2 := (HS.out.bel.alloc (by have := HS.out.sz; omega) _).grown HX2.out.2 (by have := HS.out.sz; simp; omega) (fun g hg => by have := (HS.out.own.lt g hg).1; omega)
          have bx2 := (HS.out.bx.below ((Below.refl _ _).alloc (Nat.le_refl _) (.cells #[.int .u8 (39 : Int)] 5))).grown HX2.out.2 (fun g hg => by have := (HS.out.own.lt g hg).1; omega)
          have hs2 := HX2.out.2.size
          have hs2' : w.heap.size + 1 ≤ w2.heap.size := by have := HS.out.sz; simp at hs2; omega
          go_roundw
          case rel =>
            refine ⟨k + 2, acc ++ [39], by congr 1, HX2.out.1, by omega, by have := HS.out.al; simp; omega, ?_, hb2, hs2', bx2⟩
            rw [HS.out.eq, HDK.out, HDD1.out, textL_two, Option.map_map]
            congr 1
            funext x
            simp only [Function.comp, List.append_assoc, List.cons_append, List.nil_append, Prod.mk.injEq, true_and]
            omega
          case measure => simp [intOf]; omega
        · have qd : ((d : Int) != 39) = true := by rw [bne, beq_eq_false_iff_ne.2 (show (d : Int) ≠ 39 by omega)]; rfl
          have hend : textL (l.drop k) = some ([], 1) := by
            rw [HDK.out]
            refine textL_end fun d' t e => ?_
            by_cases h : k + 1 < l.length
            · rw [hd2 h] at e
              injection e with e1 e2
              omega
            · rw [List.drop_eq_nil_of_le (by omega)] at e
              cases e
          have hP1 := HP.out
          unfold txtR at hP1
          rw [HS.out.eq, hend] at hP1
          have hst := str_own HS.out.own
          obtain ⟨gv, capv, ev, _⟩ := HS.out.own.form
          obtain ⟨n, hn⟩ : ∃ n, acc.length = n := ⟨_, rfl⟩
          rw [hn] at ev
          have hP1 : (if (acc ++ []).length > 200 then RTok (.error 1) i0 w else RTok (.ok (⟨4, acc ++ [], 0, 0⟩, k + 1)) i0 w) = P := by
            rw [← hP1]
            simp only [Option.map_some]
            split <;> rfl
          rw [List.append_nil, hn] at hP1
          have HSB := Lib.hid HS.out.bx
          have HBL := Lib.hid HS.out.bel
          clear hd2 hd3 hdd
          subst ev
          obtain ⟨S, hS⟩ : ∃ S, strB acc = S := ⟨_, rfl⟩
          rw [hS] at hst
          by_cases c200 : n > 200
          · have k200 : decide ((200 : Int) < (n : Int)) = true := by simp; omega
            rw [if_pos c200] at hP1
            have HX : Hid (∀ q : Int, P (.returned (.tuple #[Tkv 0 ⟨#[]⟩ 0 0, .int .i64 q, .int .i64 1])) ((((wr.setCell ⟨w.heap.size, 0, none⟩ (.int .i64 0)).setCell ⟨w.heap.size, 1, none⟩ (.string ⟨#[]⟩)).setCell ⟨w.heap.size, 2, none⟩ (.int .i64 0)).setCell ⟨w.heap.size, 3, none⟩ (.int .i64 0))) := Lib.hid (by
              intro q
              rw [← hP1]
              exact ⟨box4_below HBL.out (Nat.le_refl _) _ _ _ _, q, rfl⟩)
            clear hP1 hS hn hst HS hend
            go_wp2_with fail
            try go_at_call 69
            refine HA1.out.mono ?_
            rintro e w' ⟨rfl, rfl⟩
            go_wp2_with fail
            exact rtok_ret Tryz.results73 (box_four HSB.out _ _ _ _) rfl rfl rfl rfl (HX.out _)
          · have k200 : decide ((200 : Int) < (n : Int)) = false := by simp; omega
            rw [if_neg c200] at hP1
            have HX : Hid (P (.returned (.tuple #[Tkv 4 S 0 0, .int .i64 ((i0 : Int) + (k : Int) + 1), .int .i64 0])) ((((wr.setCell ⟨w.heap.size, 0, none⟩ (.int .i64 4)).setCell ⟨w.heap.size, 1, none⟩ (.string S)).setCell ⟨w.heap.size, 2, none⟩ (.int .i64 0)).setCell ⟨w.heap.size, 3, none⟩ (.int .i64 0))) := Lib.hid (by
              rw [← hP1, ← hS]
              exact ⟨box4_below HBL.out (Nat.le_refl _) _ _ _ _, by congr 1⟩)
            clear hP1 hS hn HS hend
            go_wp2_with fail
            try go_at_call 69
            refine HA1.out.mono ?_
            rintro e w' ⟨rfl, rfl⟩
            go_wp2_with fail
            exact rtok_ret Tryz.results73 (box_four HSB.out _ _ _ _) rfl rfl rfl rfl HX.out
      · have q39 : ((c : Int) == 39) = false := beq_eq_false_iff_ne.2 (by omega)
        have w7' : IntKind.i64.wrap ((i0 : Int) + (k : Int) + 1) = (i0 : Int) + (k : Int) + 1 := by rw [IntKind.wrap_i64]; omega
        go_wp2_with (first | (at_builtin; refine wp_push rfl _ _ rfl (w.heap.size + 1) u7 acc rfl (HS.out.own.alloc _) ⟨wr.heap.size, 0, none⟩ 1 1 [c] rfl rfl (news1' wr c _ (by first | rfl | simp)) (by have := HS.out.al; omega) (by have := HS.out.sz; simp; omega) ?_; intro v2 w2 own2 gr2; have HX2 := Lib.hid (And.intro own2 gr2); clear own2 gr2))
        have hb2 : Below w.heap.size w w2 := (HS.out.bel.alloc (by have := HS.out.sz; omega) _).grown HX2.out.2 (by have := HS.out.sz; simp; omega) (fun g hg => by have := (HS.out.own.lt g hg).1; omega)
        have bx2 := (HS.out.bx.below ((Below.refl _ _).alloc (Nat.le_refl _) (.cells #[.int .u8 (c : Int)] 5))).grown HX2.out.2 (fun g hg => by have := (HS.out.own.lt g hg).1; omega)
        have hs2 := HX2.out.2.size
        have hs2' : w.heap.size + 1 ≤ w2.heap.size := by have := HS.out.sz; simp at hs2; omega
        go_roundw
        case rel =>
          refine ⟨k + 1, acc ++ [c], by congr 1, HX2.out.1, by omega, by have := HS.out.al; simp; omega, ?_, hb2, hs2', bx2⟩
          rw [HS.out.eq, HDK.out, textL_q _ h39, Option.map_map]
          congr 1
          funext x
          simp only [Function.comp, List.append_assoc, List.cons_append, List.nil_append, Prod.mk.injEq, true_and]
          omega
        case measure => simp [intOf]; omega
    · have hki : decide (((i0 + k : Nat) : Int) < (s.size : Int)) = false := by simp; omega
      have hP1 := HP.out
      unfold txtR at hP1
      rw [HS.out.eq, List.drop_eq_nil_of_le (by omega)] at hP1
      have HX : Hid (∀ q : Int, P (.returned (.tuple #[Tkv 0 ⟨#[]⟩ 0 0, .int .i64 q, .int .i64 121])) ((((wr.setCell ⟨w.heap.size, 0, none⟩ (.int .i64 0)).setCell ⟨w.heap.size, 1, none⟩ (.string ⟨#[]⟩)).setCell ⟨w.heap.size, 2, none⟩ (.int .i64 0)).setCell ⟨w.heap.size, 3, none⟩ (.int .i64 0))) := Lib.hid (by
        intro q
        rw [← hP1]
        exact ⟨box4_below HS.out.bel (Nat.le_refl _) _ _ _ _, q, rfl⟩)
      clear hP1
      go_wp2_with fail
      exact rtok_ret Tryz.results73 (box_four HS.out.bx _ _ _ _) rfl rfl rfl rfl (HX.out _)

end Go.Proofs.YtkffomfbnbcgaaaGreatDoor
