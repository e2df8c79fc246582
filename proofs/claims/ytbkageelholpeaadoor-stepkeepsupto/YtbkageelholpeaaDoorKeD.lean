/- StepKeeps, part D: both iterators tell of the bytes as they were, again and again. -/
import Derived.Test.YtbkageelholpeaaDoorKpu
import Derived.Deep.DeepCutAuto
import Derived.Deep.RegionHeldLaw
import Derived.Deep.RegionWith
namespace Go.Proofs.YtbkageelholpeaaDoor
open Go.ChangeShapes Go.WideShapes Go.ChangeAt Go.RowKit

set_option maxRecDepth 100000 in
set_option maxHeartbeats 16000000 in
theorem keD {w W : World} {l : List Int} {a0 : Option Addr} {cap gA gS gK : Nat} {ak : Option Addr} {ck lo hi gr cr : Nat} {Q : Exit → Act → World → Prop} {gs : List (Nat × Nat)} (u1 u8 u9 u10 u11 u12 u13 u14 u15 u16 u17 u18 u19 u20 u21 u22 u23 u24 u25 u26 u27 u28 u29 u30 u31 u32 u33 u34 u35 u36 u37 u38 u39 u40 u41 u42 u43 u44 u45 u46 u47 u48 u49 u50 u51 u52 u53 u54 u55 u56 u57 u58 u59 u60 u61 u62 u63 u64 u65 u66 u67 u68 u69 u70 u71 u72 u73 u74 u75 u76 u77 u78 u79 u80 u81 u82 u83 u84 u85 u86 u87 u88 u89 u90 u91 u92 u93 u94 u95 u96 u97 u98 u99 u100 u101 u102 u103 u104 u105 u106 u107 u108 u109 u110 u111 u112 u113 u114 u115 u116 u117 u118 u119 u120 u121 u122 u123 u124 u125 u126 u127 u128 u129 u130 u131 u132 u133 u134 u135 u136 u137 u138 u139 u140 u141 u142 u143 u144 u145 u146 u147 u148 u149 u150 u151 u152 u153 u154 u155 u156 u157 u158 u159 u160 u161 u162 u163 u164 u165 u166 u167 u168 u169 u170 u171 u172 u173 u174 u175 u176 u177 u178 u179 u180 u181 u182 u183 u184 u185 u186 u187 u188 u189 u190 u191 u192 u193 u194 u195 u196 u197 u198 u199 u200 u201 u202 u203 u204 u205 u206 u207 u208 u209 u210 u211 u212 u213 u214 u215 u216 u217 u218 u219 u220 u221 u222 u223 u224 u225 u226 u227 u228 u229 u230 u231 u232 u233 v : Value) (lB : l.length ≤ 1048576) (hB : IsB w a0 cap l) (hT : Tab w)
    (kb : KB w l gA gS gK ak ck lo hi W) (ll : LL W hi v (runesL l).length gs)
    (hK : ∀ (y1 y8 y9 y11 y12 y13 y14 y15 y16 y17 y18 y19 y20 y21 y22 y23 y24 y25 y26 y27 y28 y29 y30 y31 y32 y33 y34 y35 y36 y37 y38 y39 y40 y41 y42 y43 y44 y45 y46 y47 y48 y49 y50 y51 y52 y53 y54 y55 y56 y57 y58 y59 y60 y61 y62 y63 y64 y65 y66 y67 y68 y69 y70 y71 y72 y73 y74 y75 y76 y77 y78 y79 y80 y81 y82 y83 y84 y85 y86 y87 y88 y89 y90 y91 y92 y93 y94 y95 y96 y97 y98 y99 y100 y101 y102 y103 y104 y105 y106 y107 y108 y109 y110 y111 y112 y113 y114 y115 y116 y117 y118 y119 y120 y121 y122 y123 y124 y125 y126 y127 y128 y129 y130 y131 y132 y133 y134 y135 y136 y137 y138 y139 y140 y141 y142 y143 y144 y145 y146 y147 y148 y149 y150 y151 y152 y153 y154 y155 y156 y157 y158 y159 y160 y161 y162 y163 y164 y165 y166 y167 y168 y169 y170 y171 y172 y173 y174 y175 y176 y177 y178 y179 y180 y181 y182 y183 y184 y185 y186 y187 y188 y189 y190 y191 y192 y193 y194 y195 y196 y197 y198 y199 y200 y201 y202 y203 y204 y205 y206 y207 y208 y209 y210 y211 y212 y213 y214 y215 y216 y217 y218 y219 y220 y221 y222 y223 y224 y225 y226 y227 y228 y229 y230 y231 y232 y233 : Value) (gW : Nat) (aw : Option Addr) (cw : Nat) (W : World), WS w l gA gS gK ak ck lo hi v gs gW aw cw W → Code.wp Tryd.prog (tl 13 (bodyOf Tryd.f3)) Q { tmps := #[.slice a0 l.length cap, y1, .pointer (some ⟨w.heap.size, 0, none⟩), .slice (some ⟨gr, 0, none⟩) (l.length + 3) cr, .int .i64 (l.length : Nat), .pointer (some ⟨gA, 0, none⟩), .func (.func 18) #[] #[.pointer (some ⟨gK, 0, none⟩)], v, y8, y9, .pointer (some ⟨gW, 0, none⟩), y11, y12, y13, y14, y15, y16, y17, y18, y19, y20, y21, y22, y23, y24, y25, y26, y27, y28, y29, y30, y31, y32, y33, y34, y35, y36, y37, y38, y39, y40, y41, y42, y43, y44, y45, y46, y47, y48, y49, y50, y51, y52, y53, y54, y55, y56, y57, y58, y59, y60, y61, y62, y63, y64, y65, y66, y67, y68, y69, y70, y71, y72, y73, y74, y75, y76, y77, y78, y79, y80, y81, y82, y83, y84, y85, y86, y87, y88, y89, y90, y91, y92, y93, y94, y95, y96, y97, y98, y99, y100, y101, y102, y103, y104, y105, y106, y107, y108, y109, y110, y111, y112, y113, y114, y115, y116, y117, y118, y119, y120, y121, y122, y123, y124, y125, y126, y127, y128, y129, y130, y131, y132, y133, y134, y135, y136, y137, y138, y139, y140, y141, y142, y143, y144, y145, y146, y147, y148, y149, y150, y151, y152, y153, y154, y155, y156, y157, y158, y159, y160, y161, y162, y163, y164, y165, y166, y167, y168, y169, y170, y171, y172, y173, y174, y175, y176, y177, y178, y179, y180, y181, y182, y183, y184, y185, y186, y187, y188, y189, y190, y191, y192, y193, y194, y195, y196, y197, y198, y199, y200, y201, y202, y203, y204, y205, y206, y207, y208, y209, y210, y211, y212, y213, y214, y215, y216, y217, y218, y219, y220, y221, y222, y223, y224, y225, y226, y227, y228, y229, y230, y231, y232, y233], defers := [] } W) :
    Code.wp Tryd.prog (tl 11 (bodyOf Tryd.f3)) Q { tmps := #[.slice a0 l.length cap, u1, .pointer (some ⟨w.heap.size, 0, none⟩), .slice (some ⟨gr, 0, none⟩) (l.length + 3) cr, .int .i64 (l.length : Nat), .pointer (some ⟨gA, 0, none⟩), .func (.func 18) #[] #[.pointer (some ⟨gK, 0, none⟩)], v, u8, u9, u10, u11, u12, u13, u14, u15, u16, u17, u18, u19, u20, u21, u22, u23, u24, u25, u26, u27, u28, u29, u30, u31, u32, u33, u34, u35, u36, u37, u38, u39, u40, u41, u42, u43, u44, u45, u46, u47, u48, u49, u50, u51, u52, u53, u54, u55, u56, u57, u58, u59, u60, u61, u62, u63, u64, u65, u66, u67, u68, u69, u70, u71, u72, u73, u74, u75, u76, u77, u78, u79, u80, u81, u82, u83, u84, u85, u86, u87, u88, u89, u90, u91, u92, u93, u94, u95, u96, u97, u98, u99, u100, u101, u102, u103, u104, u105, u106, u107, u108, u109, u110, u111, u112, u113, u114, u115, u116, u117, u118, u119, u120, u121, u122, u123, u124, u125, u126, u127, u128, u129, u130, u131, u132, u133, u134, u135, u136, u137, u138, u139, u140, u141, u142, u143, u144, u145, u146, u147, u148, u149, u150, u151, u152, u153, u154, u155, u156, u157, u158, u159, u160, u161, u162, u163, u164, u165, u166, u167, u168, u169, u170, u171, u172, u173, u174, u175, u176, u177, u178, u179, u180, u181, u182, u183, u184, u185, u186, u187, u188, u189, u190, u191, u192, u193, u194, u195, u196, u197, u198, u199, u200, u201, u202, u203, u204, u205, u206, u207, u208, u209, u210, u211, u212, u213, u214, u215, u216, u217, u218, u219, u220, u221, u222, u223, u224, u225, u226, u227, u228, u229, u230, u231, u232, u233], defers := [] } W := by
  rw [show tl 11 (bodyOf Tryd.f3) = .seq (hdc (tl 11 (bodyOf Tryd.f3))) (.seq (hdc (tl 12 (bodyOf Tryd.f3))) (tl 13 (bodyOf Tryd.f3))) from rfl]
  generalize tl 13 (bodyOf Tryd.f3) = T at *
  simp only [hdc, tl, bodyOf, Tryd.f3, Option.getD_some]
  have HK := hide hK
  have HL := hide hB.2.2.2
  have hsl := spots_le l
  have hB0 := hB.below kb.below (Nat.le_refl _)
  clear hK
  go_wp2_with fail
  refine (Steps_at a0 cap l W hB0 lB).mono ?_
  rintro e w1 ⟨aw, cw, rfl, kw, jw, x1⟩
  have d2 := (Below.refl w1.heap.size w1).alloc (Nat.le_refl _) (.cells #[.slice aw (spots l 0).length cw] 34)
  have kb2 := (kb.on x1).on d2
  have ws2 : WS w l gA gS gK ak ck lo hi v gs w1.heap.size aw cw (w1.alloc (.cells #[.slice aw (spots l 0).length cw] 34)) := ⟨kb2, (ll.on x1).on d2, Boxed.new w1 _ _, jw.below d2 (Nat.le_refl _), hT.below kb2.below hT.size⟩
  clear d2 kb2 x1 jw hB0
  dsimp only
  go_wp2_with fail
  generalize w1.alloc (.cells #[.slice aw (spots l 0).length cw] 34) = w2 at *
  generalize w1.heap.size = gW at *
  go_loopw [11] (fun i wx => ∃ k : Nat, k ≤ 3 ∧ i = .int .i64 k ∧ Below w2.heap.size w2 wx) (fun i _ => 3 - (intOf i).toNat)
  case atStart => exact ⟨0, by omega, rfl, Below.refl _ _⟩
  case round =>
    obtain ⟨k, hk, rfl, hb⟩ := hrel
    have ws := ws2.on hb
    have ca := ws.kb.ca
    by_cases hlt : k < 3
    · go_wp2_with fail
      refine (gone_allG gS l wr ws.kb.cs (Nat.lt_of_lt_of_le ws.kb.rs.2 ws.kb.hi') ws.tab (unhide HL) lB).mono ?_
      rintro e w3 ⟨a1, c1, a2, c2, rfl, i1, j1, x3⟩
      have ws3 := ws.on x3
      clear ca
      dsimp only
      go_wp2_with fail
      refine (gone_back gK l ak ck w3 ws3.kb.ck' (Nat.lt_of_lt_of_le ws3.kb.rk.2 ws3.kb.hi') ws3.tab ws3.kb.bk lB).mono ?_
      rintro e w4 ⟨b1, e1, b2, e2, rfl, i2, j2, x4⟩
      have ws4 := ws3.on x4
      have j14 := j1.below x4 (Nat.le_refl _)
      have cw4 := ws4.bw.cell
      clear i1 i2 j1
      dsimp only
      go_wp2_with fail
      refine (Same_at a2 aw c2 cw l (spots l 0) w4 j14 ws4.sw (by omega)).mono ?_
      rintro e w5 ⟨rfl, q5⟩
      have x5 := quiet_below q5 w4.heap.size
      have ws5 := ws4.on x5
      have j25 := j2.below x5 (Nat.le_refl _)
      have cw5 := ws5.bw.cell
      have b5 : Below w2.heap.size w2 w5 := ((hb.trans (x3.mono hb.size)).trans (x4.mono (Nat.le_trans hb.size x3.size))).trans (x5.mono (Nat.le_trans hb.size (Nat.le_trans x3.size x4.size)))
      clear cw4 ws3 ws4 j14 j2 q5 x3 x4 x5 hb ws
      dsimp only
      go_wp2_with fail
      go_loopw [124] (fun i wx => ∃ j : Nat, j ≤ (spots l 0).length ∧ i = .int .i64 j ∧ Below w5.heap.size w5 wx) (fun i _ => (spots l 0).length - (intOf i).toNat)
      case atStart => exact ⟨0, Nat.zero_le _, rfl, Below.refl _ _⟩
      case round =>
        obtain ⟨j, hj, rfl, hb2⟩ := hrel
        have ws6 := ws5.on hb2
        have cw6 := (hb2.cell (p := ⟨gW, 0, none⟩) ws5.bw.lt).trans cw5
        by_cases hlt2 : j < (spots l 0).length
        · have hjl := hlt2
          have hrl : (spots l 0).reverse.getD ((spots l 0).length - 1 - j) 0 = (spots l 0).getD j 0 := by
            have hrk : (spots l 0).length - 1 - j < (spots l 0).reverse.length := by rw [List.length_reverse]; omega
            simp only [List.getD, List.getElem?_eq_getElem hrk, List.getElem?_eq_getElem hjl, Option.getD_some, List.getElem_reverse]
            congr 1
            omega
          obtain ⟨g4, rfl, k1, k2, k3⟩ : ∃ g, b2 = some ⟨g, 0, none⟩ ∧ wr.cell? ⟨g, ((spots l 0).length - 1 - j) * 3, none⟩ = some (.int .i32 (first (l.drop ((spots l 0).getD j 0))).1) ∧ wr.cell? ⟨g, ((spots l 0).length - 1 - j) * 3 + 1, none⟩ = some (.int .i64 (wid (l.drop ((spots l 0).getD j 0)))) ∧ wr.cell? ⟨g, ((spots l 0).length - 1 - j) * 3 + 2, none⟩ = some (.bool (whl (l.drop ((spots l 0).getD j 0)))) := by
            rcases j25.below hb2 (Nat.le_refl _) with h | ⟨g, h1, _, h3⟩
            · have := congrArg List.length h; rw [List.length_reverse, List.length_nil] at this; omega
            · have := h3 ((spots l 0).length - 1 - j) (by rw [List.length_reverse]; omega)
              rw [hrl] at this
              exact ⟨g, h1, this⟩
          obtain ⟨g2, rfl, m1, m2, m3⟩ : ∃ g, aw = some ⟨g, 0, none⟩ ∧ wr.cell? ⟨g, j * 3, none⟩ = some (.int .i32 (first (l.drop ((spots l 0).getD j 0))).1) ∧ wr.cell? ⟨g, j * 3 + 1, none⟩ = some (.int .i64 (wid (l.drop ((spots l 0).getD j 0)))) ∧ wr.cell? ⟨g, j * 3 + 2, none⟩ = some (.bool (whl (l.drop ((spots l 0).getD j 0)))) := by
            rcases ws6.sw with h | ⟨g, h1, _, h3⟩
            · rw [h] at hjl; simp at hjl
            · exact ⟨g, h1, h3 j hjl⟩
          clear hrl
          generalize (spots l 0).getD j 0 = q at *
          generalize (first (l.drop q)).1 = r at *
          generalize wid (l.drop q) = wd at *
          generalize whl (l.drop q) = wh at *
          obtain ⟨m, hm⟩ : ∃ m, m = (spots l 0).length - 1 - j := ⟨_, rfl⟩
          rw [← hm] at k1 k2 k3
          have hmi : ((spots l 0).length : Int) - 1 - (j : Int) = (m : Int) := by omega
          have hml : m < (spots l 0).length := by omega
          clear hm ws6 ws5 j25 cw5
          go_wp2_with fail
          go_quiet (fail)
          have xq : Below wr.heap.size wr (wr.drewN nq) := quiet_below ⟨nq, rfl⟩ _
          have hbq := hb2.trans (xq.mono hb2.size)
          go_wp2_with fail
          go_roundw
          case rel => exact ⟨j + 1, by omega, by go_num, hbq⟩
          case measure => simp [intOf]; omega
        · have b6 := b5.trans (hb2.mono b5.size)
          clear cw5 cw6 ws6 ws5 j25
          go_wp2_with fail
          refine ⟨⟨k + 1, by omega, by go_num, b6⟩, ?_⟩
          simp [intOf]; omega
    · clear ca
      go_wp2_with fail
      exact unhide HK _ _ _ _ _ _ _ _ _ _ _ _ _ _ _ _ _ _ _ _ _ _ _ _ _ _ _ _ _ _ _ _ _ _ _ _ _ _ _ _ _ _ _ _ _ _ _ _ _ _ _ _ _ _ _ _ _ _ _ _ _ _ _ _ _ _ _ _ _ _ _ _ _ _ _ _ _ _ _ _ _ _ _ _ _ _ _ _ _ _ _ _ _ _ _ _ _ _ _ _ _ _ _ _ _ _ _ _ _ _ _ _ _ _ _ _ _ _ _ _ _ _ _ _ _ _ _ _ _ _ _ _ _ _ _ _ _ _ _ _ _ _ _ _ _ _ _ _ _ _ _ _ _ _ _ _ _ _ _ _ _ _ _ _ _ _ _ _ _ _ _ _ _ _ _ _ _ _ _ _ _ _ _ _ _ _ _ _ _ _ _ _ _ _ _ _ _ _ _ _ _ _ _ _ _ _ _ _ _ _ _ _ _ _ _ _ _ _ _ _ _ _ _ _ _ _ gW aw cw wr ws

end Go.Proofs.YtbkageelholpeaaDoor
