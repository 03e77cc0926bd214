/-
  Texts of mine put together, in build order.
  Conditions: as each declaration says.
-/
import Derived.Test.YtofnkfjhmjecjaaGreatDoorZp4
import Derived.Test.YtofnkfjhmjecjaaGreatDoorZp6
import Derived.Test.YtofnkfjhmjecjaaGreatDoorZp16
import Derived.Test.YtofnkfjhmjecjaaGreatDoorZp17
namespace Go.Proofs.YtofnkfjhmjecjaaGreatDoor
set_option maxRecDepth 100000
open Go.RowKit Go.Joins Go.ChangeShapes Go.WideShapes
set_option linter.unusedVariables false
set_option linter.unusedSimpArgs false
set_option maxHeartbeats 16000000 in
theorem same_l4 {K K' : Bl} {wb : World} {g h : Nat} (x y : XSt) (he : x.er = y.er) (hm : XSt.Mem K wb x) (hm' : XSt.Mem K' wb y) (hX : Bx wb g x.enc.toArray 34) (hY : Bx wb h y.enc.toArray 34)
    (J : Act → World → Prop) (Q' : Exit → Act → World → Prop) (w0 : World) (hb0 : Below wb.heap.size wb w0) (s0 s1 s4 s5 s6 s7 s9 s10 s11 s12 s13 s14 s15 s16 s17 s18 s19 s20 s21 s22 s23 s24 s25 s26 s27 s28 s29 s30 s31 s32 s33 s34 s35 s36 s37 s38 s39 s40 s41 s42 s43 s44 s45 s46 s47 s48 s49 s50 s51 s52 s53 s54 s55 s56 s57 s58 s59 s60 s61 s62 s63 s64 s65 s66 s67 s68 s69 s70 s71 s72 s73 s74 s75 s76 s77 s78 s79 s80 s81 s82 s83 s84 s85 s86 s87 s88 s89 s90 s91 s92 s93 s94 s95 s96 s97 s98 s99 s100 s101 s102 s103 s104 s105 s106 s107 s108 s109 s110 s111 s112 s113 s114 s115 s116 s117 s118 s119 s120 s121 s122 s123 s124 s125 s126 s127 s128 s129 s130 s131 s132 s133 s134 s135 s136 s137 s138 s139 s140 s141 s142 s143 s144 s145 s146 s147 s148 s149 s150 s151 s152 s153 s154 s155 s156 s157 s158 s159 s160 s161 s162 s163 s164 s165 s166 s167 s168 s169 s170 s171 s172 s173 s174 s175 s176 s177 s178 s179 s180 s181 s182 s183 s184 s185 s186 s187 s188 s189 s190 s191 s192 s193 s194 s195 s196 s197 s198 s199 s200 s201 s202 s203 s204 s205 s206 s207 s208 s209 s210 s211 s212 s213 s214 s215 s216 s217 s218 s219 s220 s221 s222 s223 s224 s225 s226 s227 s228 s229 s230 s231 s232 s233 s234 s235 s236 s237 s238 s239 s240 s241 s242 s243 s244 s245 s246 s247 s248 s249 s250 s251 : Value)
    (hk : ∀ (t4 t8 t162 t163 t164 t165 t166 t167 t168 t169 t170 t171 t172 t173 t174 t175 t176 t177 t178 t179 t180 t181 t182 t183 t184 t185 t186 t187 t188 t189 t190 t191 t192 t193 t194 t195 t196 t197 : Value) (w' : World), Below wb.heap.size wb w' → J ⟨List.toArray (s0 :: s1 :: .pointer (some ⟨g, 0, none⟩) :: .pointer (some ⟨h, 0, none⟩) :: t4 :: s5 :: s6 :: s7 :: t8 :: s9 :: s10 :: s11 :: s12 :: s13 :: s14 :: s15 :: s16 :: s17 :: s18 :: s19 :: s20 :: s21 :: s22 :: s23 :: s24 :: s25 :: s26 :: s27 :: s28 :: s29 :: s30 :: s31 :: s32 :: s33 :: s34 :: s35 :: s36 :: s37 :: s38 :: s39 :: s40 :: s41 :: s42 :: s43 :: s44 :: s45 :: s46 :: s47 :: s48 :: s49 :: s50 :: s51 :: s52 :: s53 :: s54 :: s55 :: s56 :: s57 :: s58 :: s59 :: s60 :: s61 :: s62 :: s63 :: s64 :: s65 :: s66 :: s67 :: s68 :: s69 :: s70 :: s71 :: s72 :: s73 :: s74 :: s75 :: s76 :: s77 :: s78 :: s79 :: s80 :: s81 :: s82 :: s83 :: s84 :: s85 :: s86 :: s87 :: s88 :: s89 :: s90 :: s91 :: s92 :: s93 :: s94 :: s95 :: s96 :: s97 :: s98 :: s99 :: s100 :: s101 :: s102 :: s103 :: s104 :: s105 :: s106 :: s107 :: s108 :: s109 :: s110 :: s111 :: s112 :: s113 :: s114 :: s115 :: s116 :: s117 :: s118 :: s119 :: s120 :: s121 :: s122 :: s123 :: s124 :: s125 :: s126 :: s127 :: s128 :: s129 :: s130 :: s131 :: s132 :: s133 :: s134 :: s135 :: s136 :: s137 :: s138 :: s139 :: s140 :: s141 :: s142 :: s143 :: s144 :: s145 :: s146 :: s147 :: s148 :: s149 :: s150 :: s151 :: s152 :: s153 :: s154 :: s155 :: s156 :: s157 :: s158 :: s159 :: s160 :: s161 :: t162 :: t163 :: t164 :: t165 :: t166 :: t167 :: t168 :: t169 :: t170 :: t171 :: t172 :: t173 :: t174 :: t175 :: t176 :: t177 :: t178 :: t179 :: t180 :: t181 :: t182 :: t183 :: t184 :: t185 :: t186 :: t187 :: t188 :: t189 :: t190 :: t191 :: t192 :: t193 :: t194 :: t195 :: t196 :: t197 :: s198 :: s199 :: s200 :: s201 :: s202 :: s203 :: s204 :: s205 :: s206 :: s207 :: s208 :: s209 :: s210 :: s211 :: s212 :: s213 :: s214 :: s215 :: s216 :: s217 :: s218 :: s219 :: s220 :: s221 :: s222 :: s223 :: s224 :: s225 :: s226 :: s227 :: s228 :: s229 :: s230 :: s231 :: s232 :: s233 :: s234 :: s235 :: s236 :: s237 :: s238 :: s239 :: s240 :: s241 :: s242 :: s243 :: s244 :: s245 :: s246 :: s247 :: s248 :: s249 :: s250 :: s251 :: []), []⟩ w') :
    Code.wp Tryz.prog (sameLoop 4) (Exit.inBlock 6 (Exit.then J Q')) ⟨List.toArray (s0 :: s1 :: .pointer (some ⟨g, 0, none⟩) :: .pointer (some ⟨h, 0, none⟩) :: s4 :: s5 :: s6 :: s7 :: .int .i64 0 :: s9 :: s10 :: s11 :: s12 :: s13 :: s14 :: s15 :: s16 :: s17 :: s18 :: s19 :: s20 :: s21 :: s22 :: s23 :: s24 :: s25 :: s26 :: s27 :: s28 :: s29 :: s30 :: s31 :: s32 :: s33 :: s34 :: s35 :: s36 :: s37 :: s38 :: s39 :: s40 :: s41 :: s42 :: s43 :: s44 :: s45 :: s46 :: s47 :: s48 :: s49 :: s50 :: s51 :: s52 :: s53 :: s54 :: s55 :: s56 :: s57 :: s58 :: s59 :: s60 :: s61 :: s62 :: s63 :: s64 :: s65 :: s66 :: s67 :: s68 :: s69 :: s70 :: s71 :: s72 :: s73 :: s74 :: s75 :: s76 :: s77 :: s78 :: s79 :: s80 :: s81 :: s82 :: s83 :: s84 :: s85 :: s86 :: s87 :: s88 :: s89 :: s90 :: s91 :: s92 :: s93 :: s94 :: s95 :: s96 :: s97 :: s98 :: s99 :: s100 :: s101 :: s102 :: s103 :: s104 :: s105 :: s106 :: s107 :: s108 :: s109 :: s110 :: s111 :: s112 :: s113 :: s114 :: s115 :: s116 :: s117 :: s118 :: s119 :: s120 :: s121 :: s122 :: s123 :: s124 :: s125 :: s126 :: s127 :: s128 :: s129 :: s130 :: s131 :: s132 :: s133 :: s134 :: s135 :: s136 :: s137 :: s138 :: s139 :: s140 :: s141 :: s142 :: s143 :: s144 :: s145 :: s146 :: s147 :: s148 :: s149 :: s150 :: s151 :: s152 :: s153 :: s154 :: s155 :: s156 :: s157 :: s158 :: s159 :: s160 :: s161 :: s162 :: s163 :: s164 :: s165 :: s166 :: s167 :: s168 :: s169 :: s170 :: s171 :: s172 :: s173 :: s174 :: s175 :: s176 :: s177 :: s178 :: s179 :: s180 :: s181 :: s182 :: s183 :: s184 :: s185 :: s186 :: s187 :: s188 :: s189 :: s190 :: s191 :: s192 :: s193 :: s194 :: s195 :: s196 :: s197 :: s198 :: s199 :: s200 :: s201 :: s202 :: s203 :: s204 :: s205 :: s206 :: s207 :: s208 :: s209 :: s210 :: s211 :: s212 :: s213 :: s214 :: s215 :: s216 :: s217 :: s218 :: s219 :: s220 :: s221 :: s222 :: s223 :: s224 :: s225 :: s226 :: s227 :: s228 :: s229 :: s230 :: s231 :: s232 :: s233 :: s234 :: s235 :: s236 :: s237 :: s238 :: s239 :: s240 :: s241 :: s242 :: s243 :: s244 :: s245 :: s246 :: s247 :: s248 :: s249 :: s250 :: s251 :: []), []⟩ w0 := by
  have hl : x.items.xs.map itk.er = y.items.xs.map itk.er := congrArg Stm.items he
  obtain ⟨v0, v1, v2, v3, v4, v5, v6, v7, v8⟩ := XSt.enc_b x
  obtain ⟨v0', v1', v2', v3', v4', v5', v6', v7', v8'⟩ := XSt.enc_b y
  have c7 := hX.cell v7
  have d7 := hY.cell v7'
  simp only [XL.val] at c7 d7
  obtain ⟨n7, hl7⟩ : ∃ n, x.items.xs.length = n := ⟨_, rfl⟩
  have hm7 : y.items.xs.length = n7 := by have := congrArg List.length hl; simp at this; omega
  rw [hl7] at c7
  rw [hm7] at d7
  have hbn : n7 ≤ maxLen := by rw [← hl7]; exact Nat.le_trans hm.items.1 hm.items.2.1
  have HM := Lib.hid (And.intro (And.intro hl hl7) (And.intro hm.items hm'.items))
  have HC := Lib.hid (And.intro c7 d7)
  have HS := Lib.hid (And.intro hX.lt hY.lt)
  have HK := Lib.hid hk
  have HWW := Lib.hid hb0
  clear v0 v1 v2 v3 v4 v5 v6 v7 v8 v0' v1' v2' v3' v4' v5' v6' v7' v8' c7 d7 hl7 hm7 hm hm' hX hY he hl hk hb0
  obtain ⟨oa, hoa⟩ : ∃ oa, x.items.a = oa := ⟨_, rfl⟩
  obtain ⟨oc, hoc⟩ : ∃ oc, x.items.cap = oc := ⟨_, rfl⟩
  obtain ⟨ya, hya⟩ : ∃ ya, y.items.a = ya := ⟨_, rfl⟩
  obtain ⟨yc, hyc⟩ : ∃ yc, y.items.cap = yc := ⟨_, rfl⟩
  have HA := Lib.hid (And.intro hoa hya)
  rw [hoa, hoc, hya, hyc] at HC
  clear hoa hoc hya hyc
  conv => arg 2; whnf
  go_loopw [8] (fun i wr => ∃ (k : Nat), k ≤ n7 ∧ i = .int .i64 (k : Int) ∧ Hid (Below wb.heap.size wb wr)) (fun i _ => n7 - (intOf i).toNat)
  case atStart => exact ⟨0, Nat.zero_le _, rfl, HWW⟩
  case round =>
   clear HWW
   obtain ⟨k, hk, rfl, HW⟩ := hrel
   have z1 := (HW.out.cell (p := ⟨g, 7, none⟩) HS.out.1).trans HC.out.1
   have z2 := (HW.out.cell (p := ⟨h, 7, none⟩) HS.out.2).trans HC.out.2
   by_cases c : k < n7
   · have c1 : (k : Int) < (n7 : Int) := by omega
     obtain ⟨⟨xe, d⟩, ⟨ye, d'⟩, hx, hy, hxy⟩ := two_at HM.out.1.1 (k := k) (by rw [HM.out.1.2]; exact c)
     have hdd : d = d' := congrArg Ite.name hxy
     have hee : xe.er = ye.er := congrArg Ite.e hxy
     subst hdd
     obtain ⟨b, o, eb, -, hb, hcell, hmx⟩ := XL.Mem.at (HM.out.2.1.below HW.out) hx
     obtain ⟨b', o', eb', -, hb', hcell', hmy⟩ := XL.Mem.at (HM.out.2.2.below HW.out) hy
     obtain rfl := HA.out.1.symm.trans eb
     obtain rfl := HA.out.2.symm.trans eb'
     have HCA := Lib.hid (fun (wv : World) (hbv : Below wr.heap.size wr wv) => same_any (w := wv) xe ye hee (XE.Mem.below hmx hbv) (XE.Mem.below hmy hbv))
     obtain ⟨op3, kind3, num3, scale3, text3, qual3, a3, cap3, args3⟩ := xe
     obtain ⟨op4, kind4, num4, scale4, text4, qual4, a4, cap4, args4⟩ := ye
     have hcl : ∀ j u, (itk.enc ((XE.mk op3 kind3 num3 scale3 text3 qual3 a3 cap3 args3), d))[j]? = some u → wr.cell? ⟨b, o + k * 8 + j, none⟩ = some u := hcell
     have hcl' : ∀ j u, (itk.enc ((XE.mk op4 kind4 num4 scale4 text4 qual4 a4 cap4 args4), d))[j]? = some u → wr.cell? ⟨b', o' + k * 8 + j, none⟩ = some u := hcell'
     have q0 := hcl 0 _ rfl
     have q1 := hcl 1 _ rfl
     have q2 := hcl 2 _ rfl
     have q3 := hcl 3 _ rfl
     have q4 := hcl 4 _ rfl
     have q5 := hcl 5 _ rfl
     have q6 := hcl 6 _ rfl
     have q7 := hcl 7 _ rfl
     have p0 := hcl' 0 _ rfl
     have p1 := hcl' 1 _ rfl
     have p2 := hcl' 2 _ rfl
     have p3 := hcl' 3 _ rfl
     have p4 := hcl' 4 _ rfl
     have p5 := hcl' 5 _ rfl
     have p6 := hcl' 6 _ rfl
     have p7 := hcl' 7 _ rfl
     rw [Nat.add_zero] at q0 p0
     have hwk : wrap64 ((k : Int) + 1) = ((k + 1 : Nat) : Int) := by unfold wrap64 maxLen at *; omega
     have HK2 := Lib.hid (fun (w0 : World) (hb0 : Below wr.heap.size wr w0) => show Below wr.heap.size wr w0 ∧ w0.cell? ⟨g, 7, none⟩ = some (.slice (some ⟨b, o, none⟩) n7 oc) ∧ w0.cell? ⟨h, 7, none⟩ = some (.slice (some ⟨b', o', none⟩) n7 yc) ∧ w0.cell? ⟨b, o + k * 8, none⟩ = some (.int .i64 op3) ∧ w0.cell? ⟨b, o + k * 8 + 1, none⟩ = some (.slice a3 args3.length cap3) ∧ w0.cell? ⟨b, o + k * 8 + 2, none⟩ = some (.int .i64 kind3) ∧ w0.cell? ⟨b, o + k * 8 + 3, none⟩ = some (.int .i64 num3) ∧ w0.cell? ⟨b, o + k * 8 + 4, none⟩ = some (.int .i64 scale3) ∧ w0.cell? ⟨b, o + k * 8 + 5, none⟩ = some (.string text3) ∧ w0.cell? ⟨b, o + k * 8 + 6, none⟩ = some (.string qual3) ∧ w0.cell? ⟨b, o + k * 8 + 7, none⟩ = some (.string (strB d)) ∧ w0.cell? ⟨b', o' + k * 8, none⟩ = some (.int .i64 op4) ∧ w0.cell? ⟨b', o' + k * 8 + 1, none⟩ = some (.slice a4 args4.length cap4) ∧ w0.cell? ⟨b', o' + k * 8 + 2, none⟩ = some (.int .i64 kind4) ∧ w0.cell? ⟨b', o' + k * 8 + 3, none⟩ = some (.int .i64 num4) ∧ w0.cell? ⟨b', o' + k * 8 + 4, none⟩ = some (.int .i64 scale4) ∧ w0.cell? ⟨b', o' + k * 8 + 5, none⟩ = some (.string text4) ∧ w0.cell? ⟨b', o' + k * 8 + 6, none⟩ = some (.string qual4) ∧ w0.cell? ⟨b', o' + k * 8 + 7, none⟩ = some (.string (strB d)) from ⟨hb0, (hb0.cell (p := ⟨g, 7, none⟩) (Nat.lt_of_lt_of_le HS.out.1 HW.out.size)).trans z1, (hb0.cell (p := ⟨h, 7, none⟩) (Nat.lt_of_lt_of_le HS.out.2 HW.out.size)).trans z2, (hb0.cell (by exact hb)).trans q0, (hb0.cell (by exact hb)).trans q1, (hb0.cell (by exact hb)).trans q2, (hb0.cell (by exact hb)).trans q3, (hb0.cell (by exact hb)).trans q4, (hb0.cell (by exact hb)).trans q5, (hb0.cell (by exact hb)).trans q6, (hb0.cell (by exact hb)).trans q7, (hb0.cell (by exact hb')).trans p0, (hb0.cell (by exact hb')).trans p1, (hb0.cell (by exact hb')).trans p2, (hb0.cell (by exact hb')).trans p3, (hb0.cell (by exact hb')).trans p4, (hb0.cell (by exact hb')).trans p5, (hb0.cell (by exact hb')).trans p6, (hb0.cell (by exact hb')).trans p7⟩)
     simp only [XE.val] at HCA
     clear hx hy hcell hcell' hcl hcl' hmx hmy hee hxy eb eb'
     go_wp2_with fail
     go_region_held3 (fun w0 => Below wr.heap.size wr w0 ∧ w0.cell? ⟨g, 7, none⟩ = some (.slice (some ⟨b, o, none⟩) n7 oc) ∧ w0.cell? ⟨h, 7, none⟩ = some (.slice (some ⟨b', o', none⟩) n7 yc) ∧ w0.cell? ⟨b, o + k * 8, none⟩ = some (.int .i64 op3) ∧ w0.cell? ⟨b, o + k * 8 + 1, none⟩ = some (.slice a3 args3.length cap3) ∧ w0.cell? ⟨b, o + k * 8 + 2, none⟩ = some (.int .i64 kind3) ∧ w0.cell? ⟨b, o + k * 8 + 3, none⟩ = some (.int .i64 num3) ∧ w0.cell? ⟨b, o + k * 8 + 4, none⟩ = some (.int .i64 scale3) ∧ w0.cell? ⟨b, o + k * 8 + 5, none⟩ = some (.string text3) ∧ w0.cell? ⟨b, o + k * 8 + 6, none⟩ = some (.string qual3) ∧ w0.cell? ⟨b, o + k * 8 + 7, none⟩ = some (.string (strB d)) ∧ w0.cell? ⟨b', o' + k * 8, none⟩ = some (.int .i64 op4) ∧ w0.cell? ⟨b', o' + k * 8 + 1, none⟩ = some (.slice a4 args4.length cap4) ∧ w0.cell? ⟨b', o' + k * 8 + 2, none⟩ = some (.int .i64 kind4) ∧ w0.cell? ⟨b', o' + k * 8 + 3, none⟩ = some (.int .i64 num4) ∧ w0.cell? ⟨b', o' + k * 8 + 4, none⟩ = some (.int .i64 scale4) ∧ w0.cell? ⟨b', o' + k * 8 + 5, none⟩ = some (.string text4) ∧ w0.cell? ⟨b', o' + k * 8 + 6, none⟩ = some (.string qual4) ∧ w0.cell? ⟨b', o' + k * 8 + 7, none⟩ = some (.string (strB d)))
       (first | exact HK2.out _ (Below.refl _ _) | exact HK2.out _ (Below.refl _ _).drew | exact HK2.out _ hbx)
       (first | (go_at_call 25; refine (HCA.out _ (And.left (by assumption))).mono ?_; rintro e w1 ⟨rfl, hbx0⟩; have hbx : Below wr.heap.size wr w1 := clq (by assumption) hbx0))
     all_goals
      have HWN := Lib.hid (HW.out.trans (hbx.mono HW.out.size))
      go_wp2_with fail
      refine ⟨⟨k + 1, Nat.succ_le_of_lt c, by rw [hwk], HWN⟩, ?_⟩
      rw [hwk]
      simp [intOf]
      omega
   · have c2 : decide ((k : Int) < (n7 : Int)) = false := by simp; omega
     obtain rfl : k = n7 := by omega
     clear HA HM HC z2
     go_wp2_with fail
     exact HK.out _ _ _ _ _ _ _ _ _ _ _ _ _ _ _ _ _ _ _ _ _ _ _ _ _ _ _ _ _ _ _ _ _ _ _ _ _ _ wr HW.out
end Go.Proofs.YtofnkfjhmjecjaaGreatDoor

namespace Go.Proofs.YtofnkfjhmjecjaaGreatDoor
set_option maxRecDepth 100000
open Go.RowKit Go.Joins Go.ChangeShapes Go.WideShapes
set_option linter.unusedVariables false
set_option linter.unusedSimpArgs false
set_option maxHeartbeats 16000000 in
theorem same_l5 {K K' : Bl} {wb : World} {g h : Nat} (x y : XSt) (he : x.er = y.er) (hm : XSt.Mem K wb x) (hm' : XSt.Mem K' wb y) (hX : Bx wb g x.enc.toArray 34) (hY : Bx wb h y.enc.toArray 34)
    (J : Act → World → Prop) (Q' : Exit → Act → World → Prop) (w0 : World) (hb0 : Below wb.heap.size wb w0) (s0 s1 s4 s5 s6 s7 s8 s10 s11 s12 s13 s14 s15 s16 s17 s18 s19 s20 s21 s22 s23 s24 s25 s26 s27 s28 s29 s30 s31 s32 s33 s34 s35 s36 s37 s38 s39 s40 s41 s42 s43 s44 s45 s46 s47 s48 s49 s50 s51 s52 s53 s54 s55 s56 s57 s58 s59 s60 s61 s62 s63 s64 s65 s66 s67 s68 s69 s70 s71 s72 s73 s74 s75 s76 s77 s78 s79 s80 s81 s82 s83 s84 s85 s86 s87 s88 s89 s90 s91 s92 s93 s94 s95 s96 s97 s98 s99 s100 s101 s102 s103 s104 s105 s106 s107 s108 s109 s110 s111 s112 s113 s114 s115 s116 s117 s118 s119 s120 s121 s122 s123 s124 s125 s126 s127 s128 s129 s130 s131 s132 s133 s134 s135 s136 s137 s138 s139 s140 s141 s142 s143 s144 s145 s146 s147 s148 s149 s150 s151 s152 s153 s154 s155 s156 s157 s158 s159 s160 s161 s162 s163 s164 s165 s166 s167 s168 s169 s170 s171 s172 s173 s174 s175 s176 s177 s178 s179 s180 s181 s182 s183 s184 s185 s186 s187 s188 s189 s190 s191 s192 s193 s194 s195 s196 s197 s198 s199 s200 s201 s202 s203 s204 s205 s206 s207 s208 s209 s210 s211 s212 s213 s214 s215 s216 s217 s218 s219 s220 s221 s222 s223 s224 s225 s226 s227 s228 s229 s230 s231 s232 s233 s234 s235 s236 s237 s238 s239 s240 s241 s242 s243 s244 s245 s246 s247 s248 s249 s250 s251 : Value)
    (hk : ∀ (t4 t9 t198 t199 t200 t201 t202 t203 t204 t205 t206 t207 t208 t209 t210 t211 t212 t213 t214 t215 t216 t217 t218 t219 t220 t221 t222 t223 t224 t225 t226 t227 t228 t229 t230 t231 t232 t233 t234 t235 t236 t237 t238 t239 t240 t241 t242 t243 t244 t245 t246 t247 t248 : Value) (w' : World), Below wb.heap.size wb w' → J ⟨List.toArray (s0 :: s1 :: .pointer (some ⟨g, 0, none⟩) :: .pointer (some ⟨h, 0, none⟩) :: t4 :: s5 :: s6 :: s7 :: s8 :: t9 :: s10 :: s11 :: s12 :: s13 :: s14 :: s15 :: s16 :: s17 :: s18 :: s19 :: s20 :: s21 :: s22 :: s23 :: s24 :: s25 :: s26 :: s27 :: s28 :: s29 :: s30 :: s31 :: s32 :: s33 :: s34 :: s35 :: s36 :: s37 :: s38 :: s39 :: s40 :: s41 :: s42 :: s43 :: s44 :: s45 :: s46 :: s47 :: s48 :: s49 :: s50 :: s51 :: s52 :: s53 :: s54 :: s55 :: s56 :: s57 :: s58 :: s59 :: s60 :: s61 :: s62 :: s63 :: s64 :: s65 :: s66 :: s67 :: s68 :: s69 :: s70 :: s71 :: s72 :: s73 :: s74 :: s75 :: s76 :: s77 :: s78 :: s79 :: s80 :: s81 :: s82 :: s83 :: s84 :: s85 :: s86 :: s87 :: s88 :: s89 :: s90 :: s91 :: s92 :: s93 :: s94 :: s95 :: s96 :: s97 :: s98 :: s99 :: s100 :: s101 :: s102 :: s103 :: s104 :: s105 :: s106 :: s107 :: s108 :: s109 :: s110 :: s111 :: s112 :: s113 :: s114 :: s115 :: s116 :: s117 :: s118 :: s119 :: s120 :: s121 :: s122 :: s123 :: s124 :: s125 :: s126 :: s127 :: s128 :: s129 :: s130 :: s131 :: s132 :: s133 :: s134 :: s135 :: s136 :: s137 :: s138 :: s139 :: s140 :: s141 :: s142 :: s143 :: s144 :: s145 :: s146 :: s147 :: s148 :: s149 :: s150 :: s151 :: s152 :: s153 :: s154 :: s155 :: s156 :: s157 :: s158 :: s159 :: s160 :: s161 :: s162 :: s163 :: s164 :: s165 :: s166 :: s167 :: s168 :: s169 :: s170 :: s171 :: s172 :: s173 :: s174 :: s175 :: s176 :: s177 :: s178 :: s179 :: s180 :: s181 :: s182 :: s183 :: s184 :: s185 :: s186 :: s187 :: s188 :: s189 :: s190 :: s191 :: s192 :: s193 :: s194 :: s195 :: s196 :: s197 :: t198 :: t199 :: t200 :: t201 :: t202 :: t203 :: t204 :: t205 :: t206 :: t207 :: t208 :: t209 :: t210 :: t211 :: t212 :: t213 :: t214 :: t215 :: t216 :: t217 :: t218 :: t219 :: t220 :: t221 :: t222 :: t223 :: t224 :: t225 :: t226 :: t227 :: t228 :: t229 :: t230 :: t231 :: t232 :: t233 :: t234 :: t235 :: t236 :: t237 :: t238 :: t239 :: t240 :: t241 :: t242 :: t243 :: t244 :: t245 :: t246 :: t247 :: t248 :: s249 :: s250 :: s251 :: []), []⟩ w') :
    Code.wp Tryz.prog (sameLoop 5) (Exit.inBlock 8 (Exit.then J Q')) ⟨List.toArray (s0 :: s1 :: .pointer (some ⟨g, 0, none⟩) :: .pointer (some ⟨h, 0, none⟩) :: s4 :: s5 :: s6 :: s7 :: s8 :: .int .i64 0 :: s10 :: s11 :: s12 :: s13 :: s14 :: s15 :: s16 :: s17 :: s18 :: s19 :: s20 :: s21 :: s22 :: s23 :: s24 :: s25 :: s26 :: s27 :: s28 :: s29 :: s30 :: s31 :: s32 :: s33 :: s34 :: s35 :: s36 :: s37 :: s38 :: s39 :: s40 :: s41 :: s42 :: s43 :: s44 :: s45 :: s46 :: s47 :: s48 :: s49 :: s50 :: s51 :: s52 :: s53 :: s54 :: s55 :: s56 :: s57 :: s58 :: s59 :: s60 :: s61 :: s62 :: s63 :: s64 :: s65 :: s66 :: s67 :: s68 :: s69 :: s70 :: s71 :: s72 :: s73 :: s74 :: s75 :: s76 :: s77 :: s78 :: s79 :: s80 :: s81 :: s82 :: s83 :: s84 :: s85 :: s86 :: s87 :: s88 :: s89 :: s90 :: s91 :: s92 :: s93 :: s94 :: s95 :: s96 :: s97 :: s98 :: s99 :: s100 :: s101 :: s102 :: s103 :: s104 :: s105 :: s106 :: s107 :: s108 :: s109 :: s110 :: s111 :: s112 :: s113 :: s114 :: s115 :: s116 :: s117 :: s118 :: s119 :: s120 :: s121 :: s122 :: s123 :: s124 :: s125 :: s126 :: s127 :: s128 :: s129 :: s130 :: s131 :: s132 :: s133 :: s134 :: s135 :: s136 :: s137 :: s138 :: s139 :: s140 :: s141 :: s142 :: s143 :: s144 :: s145 :: s146 :: s147 :: s148 :: s149 :: s150 :: s151 :: s152 :: s153 :: s154 :: s155 :: s156 :: s157 :: s158 :: s159 :: s160 :: s161 :: s162 :: s163 :: s164 :: s165 :: s166 :: s167 :: s168 :: s169 :: s170 :: s171 :: s172 :: s173 :: s174 :: s175 :: s176 :: s177 :: s178 :: s179 :: s180 :: s181 :: s182 :: s183 :: s184 :: s185 :: s186 :: s187 :: s188 :: s189 :: s190 :: s191 :: s192 :: s193 :: s194 :: s195 :: s196 :: s197 :: s198 :: s199 :: s200 :: s201 :: s202 :: s203 :: s204 :: s205 :: s206 :: s207 :: s208 :: s209 :: s210 :: s211 :: s212 :: s213 :: s214 :: s215 :: s216 :: s217 :: s218 :: s219 :: s220 :: s221 :: s222 :: s223 :: s224 :: s225 :: s226 :: s227 :: s228 :: s229 :: s230 :: s231 :: s232 :: s233 :: s234 :: s235 :: s236 :: s237 :: s238 :: s239 :: s240 :: s241 :: s242 :: s243 :: s244 :: s245 :: s246 :: s247 :: s248 :: s249 :: s250 :: s251 :: []), []⟩ w0 := by
  have hl : x.src.xs.map sok.er = y.src.xs.map sok.er := congrArg Stm.src he
  obtain ⟨v0, v1, v2, v3, v4, v5, v6, v7, v8⟩ := XSt.enc_b x
  obtain ⟨v0', v1', v2', v3', v4', v5', v6', v7', v8'⟩ := XSt.enc_b y
  have c8 := hX.cell v8
  have d8 := hY.cell v8'
  simp only [XL.val] at c8 d8
  obtain ⟨n8, hl8⟩ : ∃ n, x.src.xs.length = n := ⟨_, rfl⟩
  have hm8 : y.src.xs.length = n8 := by have := congrArg List.length hl; simp at this; omega
  rw [hl8] at c8
  rw [hm8] at d8
  have hbn : n8 ≤ maxLen := by rw [← hl8]; exact Nat.le_trans hm.src.1 hm.src.2.1
  have HM := Lib.hid (And.intro (And.intro hl hl8) (And.intro hm.src hm'.src))
  have HC := Lib.hid (And.intro c8 d8)
  have HS := Lib.hid (And.intro hX.lt hY.lt)
  have HK := Lib.hid hk
  have HWW := Lib.hid hb0
  clear v0 v1 v2 v3 v4 v5 v6 v7 v8 v0' v1' v2' v3' v4' v5' v6' v7' v8' c8 d8 hl8 hm8 hm hm' hX hY he hl hk hb0
  obtain ⟨oa, hoa⟩ : ∃ oa, x.src.a = oa := ⟨_, rfl⟩
  obtain ⟨oc, hoc⟩ : ∃ oc, x.src.cap = oc := ⟨_, rfl⟩
  obtain ⟨ya, hya⟩ : ∃ ya, y.src.a = ya := ⟨_, rfl⟩
  obtain ⟨yc, hyc⟩ : ∃ yc, y.src.cap = yc := ⟨_, rfl⟩
  have HA := Lib.hid (And.intro hoa hya)
  rw [hoa, hoc, hya, hyc] at HC
  clear hoa hoc hya hyc
  conv => arg 2; whnf
  go_loopw [9] (fun i wr => ∃ (k : Nat), k ≤ n8 ∧ i = .int .i64 (k : Int) ∧ Hid (Below wb.heap.size wb wr)) (fun i _ => n8 - (intOf i).toNat)
  case atStart => exact ⟨0, Nat.zero_le _, rfl, HWW⟩
  case round =>
   clear HWW
   obtain ⟨k, hk, rfl, HW⟩ := hrel
   have z1 := (HW.out.cell (p := ⟨g, 8, none⟩) HS.out.1).trans HC.out.1
   have z2 := (HW.out.cell (p := ⟨h, 8, none⟩) HS.out.2).trans HC.out.2
   by_cases c : k < n8
   · have c1 : (k : Int) < (n8 : Int) := by omega
     obtain ⟨⟨d, t, xe⟩, ⟨d', t', ye⟩, hx, hy, hxy⟩ := two_at HM.out.1.1 (k := k) (by rw [HM.out.1.2]; exact c)
     have hdd : d = d' := congrArg Src.table hxy
     have htt : t = t' := congrArg Src.alias_ hxy
     have hee : xe.er = ye.er := congrArg Src.on_ hxy
     subst hdd htt
     obtain ⟨b, o, eb, -, hb, hcell, hmx⟩ := XL.Mem.at (HM.out.2.1.below HW.out) hx
     obtain ⟨b', o', eb', -, hb', hcell', hmy⟩ := XL.Mem.at (HM.out.2.2.below HW.out) hy
     obtain rfl := HA.out.1.symm.trans eb
     obtain rfl := HA.out.2.symm.trans eb'
     have HCA := Lib.hid (fun (wv : World) (hbv : Below wr.heap.size wr wv) => same_any (w := wv) xe ye hee (XE.Mem.below hmx hbv) (XE.Mem.below hmy hbv))
     obtain ⟨op3, kind3, num3, scale3, text3, qual3, a3, cap3, args3⟩ := xe
     obtain ⟨op4, kind4, num4, scale4, text4, qual4, a4, cap4, args4⟩ := ye
     have hcl : ∀ j u, (sok.enc (d, t, (XE.mk op3 kind3 num3 scale3 text3 qual3 a3 cap3 args3)))[j]? = some u → wr.cell? ⟨b, o + k * 9 + j, none⟩ = some u := hcell
     have hcl' : ∀ j u, (sok.enc (d, t, (XE.mk op4 kind4 num4 scale4 text4 qual4 a4 cap4 args4)))[j]? = some u → wr.cell? ⟨b', o' + k * 9 + j, none⟩ = some u := hcell'
     have q0 := hcl 0 _ rfl
     have q1 := hcl 1 _ rfl
     have q2 := hcl 2 _ rfl
     have q3 := hcl 3 _ rfl
     have q4 := hcl 4 _ rfl
     have q5 := hcl 5 _ rfl
     have q6 := hcl 6 _ rfl
     have q7 := hcl 7 _ rfl
     have q8 := hcl 8 _ rfl
     have p0 := hcl' 0 _ rfl
     have p1 := hcl' 1 _ rfl
     have p2 := hcl' 2 _ rfl
     have p3 := hcl' 3 _ rfl
     have p4 := hcl' 4 _ rfl
     have p5 := hcl' 5 _ rfl
     have p6 := hcl' 6 _ rfl
     have p7 := hcl' 7 _ rfl
     have p8 := hcl' 8 _ rfl
     rw [Nat.add_zero] at q0 p0
     have hwk : wrap64 ((k : Int) + 1) = ((k + 1 : Nat) : Int) := by unfold wrap64 maxLen at *; omega
     have HK2 := Lib.hid (fun (w0 : World) (hb0 : Below wr.heap.size wr w0) => show Below wr.heap.size wr w0 ∧ w0.cell? ⟨g, 8, none⟩ = some (.slice (some ⟨b, o, none⟩) n8 oc) ∧ w0.cell? ⟨h, 8, none⟩ = some (.slice (some ⟨b', o', none⟩) n8 yc) ∧ w0.cell? ⟨b, o + k * 9, none⟩ = some (.string (strB d)) ∧ w0.cell? ⟨b, o + k * 9 + 1, none⟩ = some (.string (strB t)) ∧ w0.cell? ⟨b, o + k * 9 + 2, none⟩ = some (.int .i64 op3) ∧ w0.cell? ⟨b, o + k * 9 + 3, none⟩ = some (.slice a3 args3.length cap3) ∧ w0.cell? ⟨b, o + k * 9 + 4, none⟩ = some (.int .i64 kind3) ∧ w0.cell? ⟨b, o + k * 9 + 5, none⟩ = some (.int .i64 num3) ∧ w0.cell? ⟨b, o + k * 9 + 6, none⟩ = some (.int .i64 scale3) ∧ w0.cell? ⟨b, o + k * 9 + 7, none⟩ = some (.string text3) ∧ w0.cell? ⟨b, o + k * 9 + 8, none⟩ = some (.string qual3) ∧ w0.cell? ⟨b', o' + k * 9, none⟩ = some (.string (strB d)) ∧ w0.cell? ⟨b', o' + k * 9 + 1, none⟩ = some (.string (strB t)) ∧ w0.cell? ⟨b', o' + k * 9 + 2, none⟩ = some (.int .i64 op4) ∧ w0.cell? ⟨b', o' + k * 9 + 3, none⟩ = some (.slice a4 args4.length cap4) ∧ w0.cell? ⟨b', o' + k * 9 + 4, none⟩ = some (.int .i64 kind4) ∧ w0.cell? ⟨b', o' + k * 9 + 5, none⟩ = some (.int .i64 num4) ∧ w0.cell? ⟨b', o' + k * 9 + 6, none⟩ = some (.int .i64 scale4) ∧ w0.cell? ⟨b', o' + k * 9 + 7, none⟩ = some (.string text4) ∧ w0.cell? ⟨b', o' + k * 9 + 8, none⟩ = some (.string qual4) from ⟨hb0, (hb0.cell (p := ⟨g, 8, none⟩) (Nat.lt_of_lt_of_le HS.out.1 HW.out.size)).trans z1, (hb0.cell (p := ⟨h, 8, none⟩) (Nat.lt_of_lt_of_le HS.out.2 HW.out.size)).trans z2, (hb0.cell (by exact hb)).trans q0, (hb0.cell (by exact hb)).trans q1, (hb0.cell (by exact hb)).trans q2, (hb0.cell (by exact hb)).trans q3, (hb0.cell (by exact hb)).trans q4, (hb0.cell (by exact hb)).trans q5, (hb0.cell (by exact hb)).trans q6, (hb0.cell (by exact hb)).trans q7, (hb0.cell (by exact hb)).trans q8, (hb0.cell (by exact hb')).trans p0, (hb0.cell (by exact hb')).trans p1, (hb0.cell (by exact hb')).trans p2, (hb0.cell (by exact hb')).trans p3, (hb0.cell (by exact hb')).trans p4, (hb0.cell (by exact hb')).trans p5, (hb0.cell (by exact hb')).trans p6, (hb0.cell (by exact hb')).trans p7, (hb0.cell (by exact hb')).trans p8⟩)
     simp only [XE.val] at HCA
     clear hx hy hcell hcell' hcl hcl' hmx hmy hee hxy eb eb'
     go_wp2_with fail
     go_region_held3 (fun w0 => Below wr.heap.size wr w0 ∧ w0.cell? ⟨g, 8, none⟩ = some (.slice (some ⟨b, o, none⟩) n8 oc) ∧ w0.cell? ⟨h, 8, none⟩ = some (.slice (some ⟨b', o', none⟩) n8 yc) ∧ w0.cell? ⟨b, o + k * 9, none⟩ = some (.string (strB d)) ∧ w0.cell? ⟨b, o + k * 9 + 1, none⟩ = some (.string (strB t)) ∧ w0.cell? ⟨b, o + k * 9 + 2, none⟩ = some (.int .i64 op3) ∧ w0.cell? ⟨b, o + k * 9 + 3, none⟩ = some (.slice a3 args3.length cap3) ∧ w0.cell? ⟨b, o + k * 9 + 4, none⟩ = some (.int .i64 kind3) ∧ w0.cell? ⟨b, o + k * 9 + 5, none⟩ = some (.int .i64 num3) ∧ w0.cell? ⟨b, o + k * 9 + 6, none⟩ = some (.int .i64 scale3) ∧ w0.cell? ⟨b, o + k * 9 + 7, none⟩ = some (.string text3) ∧ w0.cell? ⟨b, o + k * 9 + 8, none⟩ = some (.string qual3) ∧ w0.cell? ⟨b', o' + k * 9, none⟩ = some (.string (strB d)) ∧ w0.cell? ⟨b', o' + k * 9 + 1, none⟩ = some (.string (strB t)) ∧ w0.cell? ⟨b', o' + k * 9 + 2, none⟩ = some (.int .i64 op4) ∧ w0.cell? ⟨b', o' + k * 9 + 3, none⟩ = some (.slice a4 args4.length cap4) ∧ w0.cell? ⟨b', o' + k * 9 + 4, none⟩ = some (.int .i64 kind4) ∧ w0.cell? ⟨b', o' + k * 9 + 5, none⟩ = some (.int .i64 num4) ∧ w0.cell? ⟨b', o' + k * 9 + 6, none⟩ = some (.int .i64 scale4) ∧ w0.cell? ⟨b', o' + k * 9 + 7, none⟩ = some (.string text4) ∧ w0.cell? ⟨b', o' + k * 9 + 8, none⟩ = some (.string qual4))
       (first | exact HK2.out _ (Below.refl _ _) | exact HK2.out _ (Below.refl _ _).drew | exact HK2.out _ hbx)
       (first | (go_at_call 25; refine (HCA.out _ (And.left (by assumption))).mono ?_; rintro e w1 ⟨rfl, hbx0⟩; have hbx : Below wr.heap.size wr w1 := clq (by assumption) hbx0))
     all_goals
      have HWN := Lib.hid (HW.out.trans (hbx.mono HW.out.size))
      go_wp2_with fail
      refine ⟨⟨k + 1, Nat.succ_le_of_lt c, by rw [hwk], HWN⟩, ?_⟩
      rw [hwk]
      simp [intOf]
      omega
   · have c2 : decide ((k : Int) < (n8 : Int)) = false := by simp; omega
     obtain rfl : k = n8 := by omega
     clear HA HM HC z2
     go_wp2_with fail
     exact HK.out _ _ _ _ _ _ _ _ _ _ _ _ _ _ _ _ _ _ _ _ _ _ _ _ _ _ _ _ _ _ _ _ _ _ _ _ _ _ _ _ _ _ _ _ _ _ _ _ _ _ _ _ _ wr HW.out
end Go.Proofs.YtofnkfjhmjecjaaGreatDoor

namespace Go.Proofs.YtofnkfjhmjecjaaGreatDoor
set_option maxRecDepth 100000
open Go.RowKit Go.Joins Go.ChangeShapes Go.WideShapes
set_option linter.unusedVariables false
set_option linter.unusedSimpArgs false
set_option maxHeartbeats 16000000 in
theorem whole_q {K K' : Bl} {w : World} (x y : XSt) (h : x.er = y.er) (hm : XSt.Mem K w x) (hm' : XSt.Mem K' w y) :
  Calls Tryz.prog 11 #[x.val, y.val] w fun e w' => e = .returned (.bool true) ∧ Below w.heap.size w w' := by
 have g0 : x.kind = y.kind := congrArg Stm.kind h
 have g1 : x.table = y.table := congrArg Stm.table h
 have g2 : x.index = y.index := congrArg Stm.index h
 have g3 : x.cols.xs.map cok.er = y.cols.xs.map cok.er := congrArg Stm.cols h
 have g4 : x.names.xs.map stk.er = y.names.xs.map stk.er := congrArg Stm.names h
 have g5 : x.uniq = y.uniq := congrArg Stm.uniq h
 have g6 : x.rows.xs.map rok.er = y.rows.xs.map rok.er := congrArg Stm.rows h
 have g7 : x.items.xs.map itk.er = y.items.xs.map itk.er := congrArg Stm.items h
 have g8 : x.src.xs.map sok.er = y.src.xs.map sok.er := congrArg Stm.src h
 have g9 : x.whr.er = y.whr.er := congrArg Stm.whr h
 have g10 : x.order.xs.length = y.order.xs.length := by have := congrArg List.length (congrArg Stm.order h); simpa [XSt.er] using this
 have g11 : x.sets.xs.length = y.sets.xs.length := by have := congrArg List.length (congrArg Stm.sets h); simpa [XSt.er] using this
 have hn1 := Bx.new w x.enc.toArray 34
 have b1 : Below w.heap.size w (w.alloc (.cells x.enc.toArray 34)) := (Below.refl _ _).alloc (Nat.le_refl _) _
 obtain ⟨wa, hwa⟩ : ∃ wa, w.alloc (.cells x.enc.toArray 34) = wa := ⟨_, rfl⟩
 rw [hwa] at hn1 b1
 have hn2 := Bx.new wa y.enc.toArray 34
 have b2 : Below wa.heap.size wa (wa.alloc (.cells y.enc.toArray 34)) := (Below.refl _ _).alloc (Nat.le_refl _) _
 have hn3 := hn1.below b2
 have b3 := b1.trans (b2.mono b1.size)
 obtain ⟨wb, hwb⟩ : ∃ wb, wa.alloc (.cells y.enc.toArray 34) = wb := ⟨_, rfl⟩
 rw [hwb] at b2 hn2 hn3 b3
 have mx : XSt.Mem K wb x := XSt.Mem.frm (Frm.of_below (F := fun _ => False) b3) (fun _ _ e => e) hm
 have my : XSt.Mem K' wb y := XSt.Mem.frm (Frm.of_below (F := fun _ => False) b3) (fun _ _ e => e) hm'
 have HB := Lib.hid b3
 have HLQ := Lib.hid (fun (wv : World) (hb : Below wb.heap.size wb wv) => last_q (w := wv) x y h (XSt.Mem.frm (Frm.of_below (F := fun _ => False) hb) (fun _ _ e => e) mx) (XSt.Mem.frm (Frm.of_below (F := fun _ => False) hb) (fun _ _ e => e) my))
 have HLD := Lib.hid (fun (wv : World) (hb : Below wb.heap.size wb wv) => And.intro (ld_V (x := x) (hn3.below hb)) (ld_V (x := y) (hn2.below hb)))
 have HWQ := Lib.hid (same_any (w := wb) x.whr y.whr g9 mx.whr my.whr)
 have HALL := Lib.hid (And.intro h (And.intro mx (And.intro my (And.intro hn3 hn2))))
 obtain ⟨op1, kind1, num1, scale1, text1, qual1, a1, cap1, args1, hz⟩ : ∃ op kind num scale text qual a cap args, x.whr = .mk op kind num scale text qual a cap args := by cases x.whr; exact ⟨_, _, _, _, _, _, _, _, _, rfl⟩
 obtain ⟨op2, kind2, num2, scale2, text2, qual2, a2, cap2, args2, hz'⟩ : ∃ op kind num scale text qual a cap args, y.whr = .mk op kind num scale text qual a cap args := by cases y.whr; exact ⟨_, _, _, _, _, _, _, _, _, rfl⟩
 rw [hz, hz'] at HWQ
 simp only [XE.val] at HWQ
 obtain ⟨v9, v10, v11, v12, v13, v14, v15⟩ := XSt.enc_w hz
 obtain ⟨v9', v10', v11', v12', v13', v14', v15'⟩ := XSt.enc_w hz'
 obtain ⟨v0, v1, v2, v3, v4, v5, v6, v7, v8⟩ := XSt.enc_b x
 obtain ⟨v0', v1', v2', v3', v4', v5', v6', v7', v8'⟩ := XSt.enc_b y
 rw [← g0] at v0'
 rw [← g1] at v1'
 rw [← g2] at v2'
 rw [← g5] at v5'
 have c0 := hn3.cell v0
 have d0 := hn2.cell v0'
 have c1 := hn3.cell v1
 have d1 := hn2.cell v1'
 have c2 := hn3.cell v2
 have d2 := hn2.cell v2'
 have c3 := hn3.cell v3
 have d3 := hn2.cell v3'
 have c4 := hn3.cell v4
 have d4 := hn2.cell v4'
 have c5 := hn3.cell v5
 have d5 := hn2.cell v5'
 have c6 := hn3.cell v6
 have d6 := hn2.cell v6'
 have c7 := hn3.cell v7
 have d7 := hn2.cell v7'
 have c8 := hn3.cell v8
 have d8 := hn2.cell v8'
 have c9 := hn3.cell v9
 have d9 := hn2.cell v9'
 have c10 := hn3.cell v10
 have d10 := hn2.cell v10'
 have c11 := hn3.cell v11
 have d11 := hn2.cell v11'
 have c12 := hn3.cell v12
 have d12 := hn2.cell v12'
 have c13 := hn3.cell v13
 have d13 := hn2.cell v13'
 have c14 := hn3.cell v14
 have d14 := hn2.cell v14'
 have c15 := hn3.cell v15
 have d15 := hn2.cell v15'
 have c16 := hn3.cell (XSt.enc_16 x)
 have d16 := hn2.cell (XSt.enc_16 y)
 have c17 := hn3.cell (XSt.enc_17 x)
 have d17 := hn2.cell (XSt.enc_17 y)
 simp only [XL.val] at c3 d3 c4 d4 c6 d6 c7 d7 c8 d8 c16 d16 c17 d17
 rw [← g10] at d16
 rw [← g11] at d17
 obtain ⟨n3, hl3⟩ : ∃ n, x.cols.xs.length = n := ⟨_, rfl⟩
 have hm3 : y.cols.xs.length = n3 := by have := congrArg List.length g3; simp at this; omega
 rw [hl3] at c3
 rw [hm3] at d3
 obtain ⟨n4, hl4⟩ : ∃ n, x.names.xs.length = n := ⟨_, rfl⟩
 have hm4 : y.names.xs.length = n4 := by have := congrArg List.length g4; simp at this; omega
 rw [hl4] at c4
 rw [hm4] at d4
 obtain ⟨n6, hl6⟩ : ∃ n, x.rows.xs.length = n := ⟨_, rfl⟩
 have hm6 : y.rows.xs.length = n6 := by have := congrArg List.length g6; simp at this; omega
 rw [hl6] at c6
 rw [hm6] at d6
 obtain ⟨n7, hl7⟩ : ∃ n, x.items.xs.length = n := ⟨_, rfl⟩
 have hm7 : y.items.xs.length = n7 := by have := congrArg List.length g7; simp at this; omega
 rw [hl7] at c7
 rw [hm7] at d7
 obtain ⟨n8, hl8⟩ : ∃ n, x.src.xs.length = n := ⟨_, rfl⟩
 have hm8 : y.src.xs.length = n8 := by have := congrArg List.length g8; simp at this; omega
 rw [hl8] at c8
 rw [hm8] at d8
 generalize hP : (fun (e : Ending) (w' : World) => e = .returned (.bool true) ∧ Below w.heap.size w w') = P
 have HP := Lib.hid hP
 simp only [XSt.val]
 clear hP hn1 hn2 hn3 b1 b2 b3 hm hm' h mx my g0 g1 g2 g3 g4 g5 g6 g7 g8 g9 g10 g11 hz hz' v0 v0' v1 v1' v2 v2' v3 v3' v4 v4' v5 v5' v6 v6' v7 v7' v8 v8' v9 v9' v10 v10' v11 v11' v12 v12' v13 v13' v14 v14' v15 v15' hl3 hm3 hl4 hm4 hl6 hm6 hl7 hm7 hl8 hm8
 go_enter Tryz.func11, Tryz.ntmps11
 go_wp2_with (first | (go_at_call 25; refine HWQ.out.mono ?_; rintro e w1 ⟨rfl, hw1⟩; have HW1 := Lib.hid hw1; clear hw1 HWQ))
 clear c0 d0 c1 d1 c2 d2 c3 d3 c4 d4 c5 d5 c6 d6 c7 d7 c8 d8 c9 d9 c10 d10 c11 d11 c12 d12 c13 d13 c14 d14 c15 d15 c16 d16 c17 d17
 refine same_l1 x y HALL.out.1 HALL.out.2.1 HALL.out.2.2.1 HALL.out.2.2.2.1 HALL.out.2.2.2.2 _ _ _ HW1.out _ _ _ _ _ _ _ _ _ _ _ _ _ _ _ _ _ _ _ _ _ _ _ _ _ _ _ _ _ _ _ _ _ _ _ _ _ _ _ _ _ _ _ _ _ _ _ _ _ _ _ _ _ _ _ _ _ _ _ _ _ _ _ _ _ _ _ _ _ _ _ _ _ _ _ _ _ _ _ _ _ _ _ _ _ _ _ _ _ _ _ _ _ _ _ _ _ _ _ _ _ _ _ _ _ _ _ _ _ _ _ _ _ _ _ _ _ _ _ _ _ _ _ _ _ _ _ _ _ _ _ _ _ _ _ _ _ _ _ _ _ _ _ _ _ _ _ _ _ _ _ _ _ _ _ _ _ _ _ _ _ _ _ _ _ _ _ _ _ _ _ _ _ _ _ _ _ _ _ _ _ _ _ _ _ _ _ _ _ _ _ _ _ _ _ _ _ _ _ _ _ _ _ _ _ _ _ _ _ _ _ _ _ _ _ _ _ _ _ _ _ _ _ _ _ _ _ _ _ _ _ _ _ _ _ _ _ _ _ _ _ _ _ _ _ _ _ _ _ ?_
 intro _ _ _ _ _ _ _ _ _ _ _ _ _ _ _ _ _ _ _ _ wx1 hwx
 have HW2 := Lib.hid hwx
 clear hwx HW1
 go_wp2_with fail
 refine same_l2 x y HALL.out.1 HALL.out.2.1 HALL.out.2.2.1 HALL.out.2.2.2.1 HALL.out.2.2.2.2 _ _ _ HW2.out _ _ _ _ _ _ _ _ _ _ _ _ _ _ _ _ _ _ _ _ _ _ _ _ _ _ _ _ _ _ _ _ _ _ _ _ _ _ _ _ _ _ _ _ _ _ _ _ _ _ _ _ _ _ _ _ _ _ _ _ _ _ _ _ _ _ _ _ _ _ _ _ _ _ _ _ _ _ _ _ _ _ _ _ _ _ _ _ _ _ _ _ _ _ _ _ _ _ _ _ _ _ _ _ _ _ _ _ _ _ _ _ _ _ _ _ _ _ _ _ _ _ _ _ _ _ _ _ _ _ _ _ _ _ _ _ _ _ _ _ _ _ _ _ _ _ _ _ _ _ _ _ _ _ _ _ _ _ _ _ _ _ _ _ _ _ _ _ _ _ _ _ _ _ _ _ _ _ _ _ _ _ _ _ _ _ _ _ _ _ _ _ _ _ _ _ _ _ _ _ _ _ _ _ _ _ _ _ _ _ _ _ _ _ _ _ _ _ _ _ _ _ _ _ _ _ _ _ _ _ _ _ _ _ _ _ _ _ _ _ _ _ _ _ _ _ _ _ _ ?_
 intro _ _ _ _ _ _ _ _ _ _ _ _ _ _ _ _ _ _ _ _ wx2 hwx
 have HW3 := Lib.hid hwx
 clear hwx HW2
 go_wp2_with fail
 refine same_l3 x y HALL.out.1 HALL.out.2.1 HALL.out.2.2.1 HALL.out.2.2.2.1 HALL.out.2.2.2.2 _ _ _ HW3.out _ _ _ _ _ _ _ _ _ _ _ _ _ _ _ _ _ _ _ _ _ _ _ _ _ _ _ _ _ _ _ _ _ _ _ _ _ _ _ _ _ _ _ _ _ _ _ _ _ _ _ _ _ _ _ _ _ _ _ _ _ _ _ _ _ _ _ _ _ _ _ _ _ _ _ _ _ _ _ _ _ _ _ _ _ _ _ _ _ _ _ _ _ _ _ _ _ _ _ _ _ _ _ _ _ _ _ _ _ _ _ _ _ _ _ _ _ _ _ _ _ _ _ _ _ _ _ _ _ _ _ _ _ _ _ _ _ _ _ _ _ _ _ _ _ _ _ _ _ _ _ _ _ _ _ _ _ _ _ _ _ _ _ _ _ _ _ _ _ _ _ _ _ _ _ _ _ _ _ _ _ _ _ _ _ _ _ _ _ _ _ _ _ _ _ _ _ _ _ _ _ _ _ _ _ _ _ _ _ _ _ _ _ _ _ _ _ _ _ _ _ _ _ _ _ _ _ _ _ _ _ _ _ _ _ _ _ _ _ _ _ _ _ _ _ _ _ _ _ ?_
 intro _ _ _ _ _ _ _ _ _ _ _ _ _ _ _ _ _ _ _ _ _ wx3 hwx
 have HW4 := Lib.hid hwx
 clear hwx HW3
 go_wp2_with fail
 refine same_l4 x y HALL.out.1 HALL.out.2.1 HALL.out.2.2.1 HALL.out.2.2.2.1 HALL.out.2.2.2.2 _ _ _ HW4.out _ _ _ _ _ _ _ _ _ _ _ _ _ _ _ _ _ _ _ _ _ _ _ _ _ _ _ _ _ _ _ _ _ _ _ _ _ _ _ _ _ _ _ _ _ _ _ _ _ _ _ _ _ _ _ _ _ _ _ _ _ _ _ _ _ _ _ _ _ _ _ _ _ _ _ _ _ _ _ _ _ _ _ _ _ _ _ _ _ _ _ _ _ _ _ _ _ _ _ _ _ _ _ _ _ _ _ _ _ _ _ _ _ _ _ _ _ _ _ _ _ _ _ _ _ _ _ _ _ _ _ _ _ _ _ _ _ _ _ _ _ _ _ _ _ _ _ _ _ _ _ _ _ _ _ _ _ _ _ _ _ _ _ _ _ _ _ _ _ _ _ _ _ _ _ _ _ _ _ _ _ _ _ _ _ _ _ _ _ _ _ _ _ _ _ _ _ _ _ _ _ _ _ _ _ _ _ _ _ _ _ _ _ _ _ _ _ _ _ _ _ _ _ _ _ _ _ _ _ _ _ _ _ _ _ _ _ _ _ _ _ _ _ _ _ _ _ _ _ ?_
 intro _ _ _ _ _ _ _ _ _ _ _ _ _ _ _ _ _ _ _ _ _ _ _ _ _ _ _ _ _ _ _ _ _ _ _ _ _ _ wx4 hwx
 have HW5 := Lib.hid hwx
 clear hwx HW4
 go_wp2_with fail
 refine same_l5 x y HALL.out.1 HALL.out.2.1 HALL.out.2.2.1 HALL.out.2.2.2.1 HALL.out.2.2.2.2 _ _ _ HW5.out _ _ _ _ _ _ _ _ _ _ _ _ _ _ _ _ _ _ _ _ _ _ _ _ _ _ _ _ _ _ _ _ _ _ _ _ _ _ _ _ _ _ _ _ _ _ _ _ _ _ _ _ _ _ _ _ _ _ _ _ _ _ _ _ _ _ _ _ _ _ _ _ _ _ _ _ _ _ _ _ _ _ _ _ _ _ _ _ _ _ _ _ _ _ _ _ _ _ _ _ _ _ _ _ _ _ _ _ _ _ _ _ _ _ _ _ _ _ _ _ _ _ _ _ _ _ _ _ _ _ _ _ _ _ _ _ _ _ _ _ _ _ _ _ _ _ _ _ _ _ _ _ _ _ _ _ _ _ _ _ _ _ _ _ _ _ _ _ _ _ _ _ _ _ _ _ _ _ _ _ _ _ _ _ _ _ _ _ _ _ _ _ _ _ _ _ _ _ _ _ _ _ _ _ _ _ _ _ _ _ _ _ _ _ _ _ _ _ _ _ _ _ _ _ _ _ _ _ _ _ _ _ _ _ _ _ _ _ _ _ _ _ _ _ _ _ _ _ _ ?_
 intro _ _ _ _ _ _ _ _ _ _ _ _ _ _ _ _ _ _ _ _ _ _ _ _ _ _ _ _ _ _ _ _ _ _ _ _ _ _ _ _ _ _ _ _ _ _ _ _ _ _ _ _ _ wx5 hwx
 have HW6 := Lib.hid hwx
 clear hwx HW5
 have HL1 := Lib.hid (HLD.out _ HW6.out).1
 have HL2 := Lib.hid (HLD.out _ HW6.out).2
 have HLS := Lib.hid (HLQ.out _ HW6.out)
 go_wp2_with (first | (refine wpLd rfl _ rfl rfl HL1.out ?_; clear HL1) | (refine wpLd rfl _ rfl rfl HL2.out ?_; clear HL2) | (go_at_call 27; refine HLS.out.mono ?_; rintro e w3 ⟨rfl, hw3⟩; have HF := Lib.hid (show P (.returned (.bool true)) w3 by rw [← HP.out]; exact ⟨rfl, (HB.out.trans (HW6.out.mono HB.out.size)).trans (hw3.mono (HB.out.trans (HW6.out.mono HB.out.size)).size)⟩); clear hw3))
 exact HF.out
end Go.Proofs.YtofnkfjhmjecjaaGreatDoor

namespace Go.Proofs.YtofnkfjhmjecjaaGreatDoor
set_option maxRecDepth 100000
open Go.RowKit Go.Joins Go.ChangeShapes Go.WideShapes
set_option linter.unusedVariables false
set_option linter.unusedSimpArgs false
end Go.Proofs.YtofnkfjhmjecjaaGreatDoor

namespace Go.Proofs.YtofnkfjhmjecjaaGreatDoor
set_option maxRecDepth 100000
open Go.RowKit Go.Joins Go.ChangeShapes Go.WideShapes
set_option linter.unusedVariables false
set_option linter.unusedSimpArgs false
def WB (w : World) (b : Nat) (l : List Nat) : Prop := (∃ (cs : Array Value) (fr : Nat × Nat), w.heap[b]? = some (.cells cs 5 fr) ∧ l.length ≤ fr.1 ∧ ∀ (i x : Nat), l[i]? = some x → cs[i]? = some (Value.int .u8 (x : Int))) ∧ ∀ x ∈ l, x < 256
def outR : Except Nat Stm → Stm × Int
 | .ok st => (st, 0)
 | .error c => ({ kind := 0 }, (c : Int))
theorem ParseE.form {w w' : World} {r : Except Nat Stm} {e : Ending} (h : ParseE w r e w') : Below w.heap.size w w' ∧ ∃ x : XSt, e = .returned (.tuple #[x.val, .int .i64 (outR r).2]) ∧ x.er = (outR r).1 ∧ XSt.Mem (GE w.heap.size) w' x := by
 unfold ParseE at h
 obtain ⟨hb, h⟩ := h
 refine ⟨hb, ?_⟩
 cases r with
 | ok st => exact h
 | error c =>
  refine ⟨{ kind := 0 }, h, ?_, ?_⟩
  ·show XSt.er { kind := 0 } = ({ kind := 0 } : Stm)
   unfold XSt.er
   simp only [List.map_nil, er0]
  ·exact ⟨XL.Mem.nil _ _, XL.Mem.nil _ _, XL.Mem.nil _ _, XL.Mem.nil _ _, XL.Mem.nil _ _, XE.Mem.leaf _ _ _ _ _ _ _ _, XL.Mem.nil _ _, XL.Mem.nil _ _⟩
def z18 : Array Value := #[.int .i64 0, .string ⟨#[]⟩, .string ⟨#[]⟩, .slice none 0 0, .slice none 0 0, .bool false, .slice none 0 0, .slice none 0 0, .slice none 0 0, .int .i64 0, .slice none 0 0, .int .i64 0, .int .i64 0, .int .i64 0, .string ⟨#[]⟩, .string ⟨#[]⟩, .slice none 0 0, .slice none 0 0]
theorem put_st {K : Bl} {w : World} {x : XSt} (hm : XSt.Mem K w x) : ∃ wz, (Instr.storeAt 34 (.pointer (some ⟨w.heap.size, 0, none⟩)) x.val).run Tryz.prog (w.alloc (.cells #[.int .i64 0, .string ⟨#[]⟩, .string ⟨#[]⟩, .slice none 0 0, .slice none 0 0, .bool false, .slice none 0 0, .slice none 0 0, .slice none 0 0, .int .i64 0, .slice none 0 0, .int .i64 0, .int .i64 0, .int .i64 0, .string ⟨#[]⟩, .string ⟨#[]⟩, .slice none 0 0, .slice none 0 0] 34)) = .ok () wz ∧ Below w.heap.size w wz ∧ Bx wz w.heap.size x.enc.toArray 34 ∧ XSt.Mem K wz x := by
 have hn := Bx.new w z18 34
 obtain ⟨wz, hst, fz, bz⟩ := st_V hn rfl x
 have f1 : Frm (fun k => w.heap.size ≤ k) w wz := (Frm.of_below (F := fun k => w.heap.size ≤ k) ((Below.refl _ _).alloc (Nat.le_refl _) _)).trans fz (fun k hk => .inl (Nat.le_of_eq hk.symm))
 have bl : Below w.heap.size w wz := f1.below (fun k hk => hk) (Nat.le_refl _)
 exact ⟨wz, hst, bl, bz, XSt.Mem.frm (Frm.of_below (F := fun _ => False) bl) (fun _ _ e => e) hm⟩
theorem wpLdG {ops : Array Oper} {rest : List Oper} {o : Oper} {a : Act} {w : World} {Q : Exit → Act → World → Prop} (hw : Region.wanted o (yielded ops a.tmps) = true) (x : Operand) (ho : o.op = .load 34 x) {p v : Value} (hx : a.eval x = p)
  (hld : (Instr.loadAt 34 p).run Tryz.prog w = .ok v w) (h : wpList Tryz.prog ops Q rest (a.put o.dst v) w) : wpList Tryz.prog ops Q (o :: rest) a w :=
 wpList_step fun _ hK => by
  rw [if_pos hw]
  unfold Oper.wp execOp
  simp only [ho, hx, Sem.run_bind, Sem.run_pure, Result.andThen_ok, hld]
  exact hK _ _ h
theorem parseS_tot (s : ByteArray) : ∃ n r, parseS n s = some r := by
 unfold parseS
 cases toksE (sl s) with
 | error c => exact ⟨0, _, rfl⟩
 | ok ts => exact parseP_tot isN ts
end Go.Proofs.YtofnkfjhmjecjaaGreatDoor

namespace Go.Proofs.YtofnkfjhmjecjaaGreatDoor
set_option maxRecDepth 100000
open Go.RowKit Go.Joins Go.ChangeShapes Go.WideShapes
set_option linter.unusedVariables false
set_option linter.unusedSimpArgs false
theorem slx_at (s : ByteArray) (q : Nat) (h : q < s.size) : (sl s)[q]? = some (s[q]'h).toNat := by
 unfold sl
 rw [List.getElem?_map, Array.getElem?_toList, Array.getElem?_eq_getElem h]
 rfl
theorem slx_get (s : ByteArray) (q : Nat) (h : q < s.size) : (sl s).getD q 0 = (s[q]'h).toNat := by
 rw [List.getD_eq_getElem?_getD, slx_at s q h]
 rfl
theorem slx_lt (s : ByteArray) (q : Nat) : (sl s).getD q 0 < 256 := by
 by_cases h : q < s.size
 ·rw [slx_get s q h]; exact (s[q]'h).toNat_lt
 ·rw [List.getD_eq_getElem?_getD, List.getElem?_eq_none (by rw [sl_length]; omega)]
  decide
set_option maxHeartbeats 1000000 in
theorem rat_any (s : ByteArray) (i : Nat) (w : World) : Calls Tryz.prog 118 #[.string s, .int .i64 (i : Int)] w fun e w' => e = .returned (.int .u8 ((sl s).getD i 0 : Nat)) ∧ w = w' := by
 by_cases h : i < s.size
 ·have hx := slx_get s i h
  have hi : (i : Int) < (s.size : Int) := by omega
  rw [hx]
  clear hx
  go_enter Tryz.func118, Tryz.ntmps118
  go_wp2_with fail
  all_goals first | (go_ret; exact ⟨rfl, rfl⟩) | (exfalso; omega)
 ·have hi : decide ((i : Int) < (s.size : Int)) = false := by simp; omega
  rw [List.getD_eq_getElem?_getD, List.getElem?_eq_none (by rw [sl_length]; omega)]
  go_enter Tryz.func118, Tryz.ntmps118
  go_wp2_with fail
  go_ret
  exact ⟨rfl, rfl⟩
end Go.Proofs.YtofnkfjhmjecjaaGreatDoor
