/- StepKeeps, part E: an iterator gone over while it is gone over. -/
import Derived.Test.YtbkageelholpeaaDoorKpu
import Derived.Deep.DeepCutAuto
import Derived.Deep.RegionHeldLaw
import Derived.Deep.RegionWith
import Derived.RangeFuncCalls
namespace Go.Proofs.YtbkageelholpeaaDoor
open Go.ChangeShapes Go.WideShapes Go.ChangeAt Go.RowKit

attribute [local go_sem] Oper.semAt_some
theorem gone_allH (g : Nat) (l : List Int) (w : World) (hc : w.cell? ⟨g, 0, none⟩ = some (.string (strOfNums l))) (hg : g < w.heap.size) (hT : Tab w) (hb : ∀ x ∈ l, 0 ≤ x ∧ x ≤ 255) (hl : l.length ≤ 1048576) :
    Calls Tryd.prog 11 #[.func (.func 15) #[] #[.pointer (some ⟨g, 0, none⟩)]] w fun e w' =>
      ∃ a1 c1 a2 c2, e = .returned (.tuple #[.slice a1 (spots l 0).length c1, .slice a2 (spots l 0).length c2]) ∧ StepsAt w' l a2 (spots l 0) ∧ (∀ g, a2 = some ⟨g, 0, none⟩ → w.heap.size ≤ g) ∧ Below w.heap.size w w' := by
  have := spots_le l
  refine (gone_at 15 _ l (spots l 0) w (enters_of Tryd.func15 (by kernel_rfl) rfl) (all_stops g w.heap.size l w hc hg (Nat.le_refl _) hT hT.size (by unfold maxLen; omega) hb) (by omega)).mono ?_
  rintro e w' ⟨vp, vs, rfl, hp, hv, hb⟩
  obtain ⟨a1, c1, rfl, h1, h2⟩ := ints_at hp
  have hlt := World.ownsRow.lt hv
  obtain ⟨a2, c2, rfl, h3, h4⟩ := steps_at hv
  exact ⟨a1, c1, a2, c2, rfl, h4, fun g e => (hlt g (by rw [e]; rfl)).1, hb⟩
theorem StepsAt.row {W W' : World} {l : List Int} {a : Option Addr} {ps : List Nat} {gC : Nat} (h : StepsAt W l a ps) (hg : W.grownBy W' (some gC)) (hne : ∀ g, a = some ⟨g, 0, none⟩ → g ≠ gC) : StepsAt W' l a ps := by
  rcases h with h | ⟨g, h1, h2, h3⟩
  · exact Or.inl h
  · have hn : some g ≠ some gC := fun e => hne g h1 (by cases e; rfl)
    exact Or.inr ⟨g, h1, Nat.lt_of_lt_of_le h2 hg.size, fun k hk => ⟨hg.cell (a := ⟨g, k * 3, none⟩) (h3 k hk).1 hn, hg.cell (a := ⟨g, k * 3 + 1, none⟩) (h3 k hk).2.1 hn, hg.cell (a := ⟨g, k * 3 + 2, none⟩) (h3 k hk).2.2 hn⟩⟩
theorem others_below {W W' : World} (h : Below W.heap.size W W') : KeepsOthers W W' := ⟨h.size, fun k _ hk _ => (h.block k (heap_lt hk)).trans hk⟩
def cntE (wz : World) (gC : Nat) (pre : List Nat) (W : World) : Prop := wz.grownBy W (some gC) ∧ Boxed W gC 3 (.int .i64 pre.length) ∧ pre.length ≤ 3
theorem cntE_own (wz : World) (gC : Nat) : OwnFrom wz.heap.size (cntE wz gC) := fun _ _ _ _ ⟨h1, h2, h3⟩ hg hr => ⟨(cnt_keep h1 h2 hg hr).1, (cnt_keep h1 h2 hg hr).2, h3⟩
theorem grownE_own (wz : World) (gC : Nat) : OwnFrom wz.heap.size (fun (_ : List Nat) W => wz.grownBy W (some gC)) := fun _ _ _ _ h hg hr => grown_trans h hg (fun k e => Or.inr (hr k e).1)

set_option maxRecDepth 100000 in
set_option maxHeartbeats 16000000 in
theorem keE {w W : World} {l : List Int} {a0 : Option Addr} {cap gA gS gK : Nat} {ak : Option Addr} {ck lo hi gr cr : Nat} {Q : Exit → Act → World → Prop} {gs : List (Nat × Nat)} {gW : Nat} {aw : Option Addr} {cw : Nat} (u1 u8 u9 u11 u12 u13 u14 u15 u16 u17 u18 u19 u20 u21 u22 u23 u24 u25 u26 u27 u28 u29 u30 u31 u32 u33 u34 u35 u36 u37 u38 u39 u40 u41 u42 u43 u44 u45 u46 u47 u48 u49 u50 u51 u52 u53 u54 u55 u56 u57 u58 u59 u60 u61 u62 u63 u64 u65 u66 u67 u68 u69 u70 u71 u72 u73 u74 u75 u76 u77 u78 u79 u80 u81 u82 u83 u84 u85 u86 u87 u88 u89 u90 u91 u92 u93 u94 u95 u96 u97 u98 u99 u100 u101 u102 u103 u104 u105 u106 u107 u108 u109 u110 u111 u112 u113 u114 u115 u116 u117 u118 u119 u120 u121 u122 u123 u124 u125 u126 u127 u128 u129 u130 u131 u132 u133 u134 u135 u136 u137 u138 u139 u140 u141 u142 u143 u144 u145 u146 u147 u148 u149 u150 u151 u152 u153 u154 u155 u156 u157 u158 u159 u160 u161 u162 u163 u164 u165 u166 u167 u168 u169 u170 u171 u172 u173 u174 u175 u176 u177 u178 u179 u180 u181 u182 u183 u184 u185 u186 u187 u188 u189 u190 u191 u192 u193 u194 u195 u196 u197 u198 u199 u200 u201 u202 u203 u204 u205 u206 u207 u208 u209 u210 u211 u212 u213 u214 u215 u216 u217 u218 u219 u220 u221 u222 u223 u224 u225 u226 u227 u228 u229 u230 u231 u232 u233 v : Value) (lB : l.length ≤ 1048576) (hl : ∀ x ∈ l, 0 ≤ x ∧ x ≤ 255)
    (ws : WS w l gA gS gK ak ck lo hi v gs gW aw cw W)
    (hK : ∀ (y1 y8 y9 y10 y11 y12 y13 y14 y15 y16 y17 y18 y19 y20 y21 y22 y23 y24 y25 y26 y27 y28 y29 y30 y31 y32 y33 y34 y35 y36 y37 y38 y39 y40 y41 y42 y43 y44 y45 y46 y47 y48 y49 y50 y51 y52 y53 y54 y55 y56 y57 y58 y59 y60 y61 y62 y63 y64 y65 y66 y67 y68 y69 y70 y71 y72 y73 y74 y75 y76 y77 y78 y79 y80 y81 y82 y83 y84 y85 y86 y87 y88 y89 y90 y91 y92 y93 y94 y95 y96 y97 y98 y99 y100 y101 y102 y103 y104 y105 y106 y107 y108 y109 y110 y111 y112 y113 y114 y115 y116 y117 y118 y119 y120 y121 y122 y123 y124 y125 y126 y127 y128 y129 y130 y131 y132 y133 y134 y135 y136 y137 y138 y139 y140 y141 y142 y143 y144 y145 y146 y147 y148 y149 y150 y151 y152 y153 y154 y155 y156 y157 y158 y159 y160 y161 y162 y163 y164 y165 y166 y167 y168 y169 y170 y171 y172 y173 y174 y175 y176 y177 y178 y179 y180 y181 y182 y183 y184 y185 y186 y187 y188 y189 y190 y191 y192 y193 y194 y195 y196 y197 y198 y199 y200 y201 y202 y203 y204 y205 y206 y207 y208 y209 y210 y211 y212 y213 y214 y215 y216 y217 y218 y219 y220 y221 y222 y223 y224 y225 y226 y227 y228 y229 y230 y231 y232 y233 : Value) (D : Nat) (W' : World), W.heap.size ≤ D → W'.heap[D]? = some (.deferred (some [])) → KB w l gA gS gK ak ck lo hi W' → LL W' hi v (runesL l).length gs → Code.wp Tryd.prog (tl 15 (bodyOf Tryd.f3)) Q { tmps := #[.slice a0 l.length cap, y1, .pointer (some ⟨w.heap.size, 0, none⟩), .slice (some ⟨gr, 0, none⟩) (l.length + 3) cr, .int .i64 (l.length : Nat), .pointer (some ⟨gA, 0, none⟩), .func (.func 18) #[] #[.pointer (some ⟨gK, 0, none⟩)], v, y8, y9, y10, y11, y12, y13, y14, y15, y16, y17, y18, y19, y20, y21, y22, y23, y24, y25, y26, y27, y28, y29, y30, y31, y32, y33, y34, y35, y36, y37, y38, y39, y40, y41, y42, y43, y44, y45, y46, y47, y48, y49, y50, y51, y52, y53, y54, y55, y56, y57, y58, y59, y60, y61, y62, y63, y64, y65, y66, y67, y68, y69, y70, y71, y72, y73, y74, y75, y76, y77, y78, y79, y80, y81, y82, y83, y84, y85, y86, y87, y88, y89, y90, y91, y92, y93, y94, y95, y96, y97, y98, y99, y100, y101, y102, y103, y104, y105, y106, y107, y108, y109, y110, y111, y112, y113, y114, y115, y116, y117, y118, y119, y120, y121, y122, y123, y124, y125, y126, y127, y128, y129, y130, y131, y132, y133, y134, y135, y136, y137, y138, y139, y140, y141, y142, y143, y144, y145, y146, y147, y148, y149, y150, y151, y152, y153, y154, y155, y156, y157, y158, y159, y160, y161, y162, y163, y164, y165, y166, y167, y168, y169, y170, y171, y172, y173, y174, y175, y176, y177, y178, y179, y180, y181, y182, y183, y184, y185, y186, y187, y188, y189, y190, y191, y192, y193, y194, y195, y196, y197, y198, y199, y200, y201, y202, y203, y204, y205, y206, y207, y208, y209, y210, y211, y212, y213, y214, y215, y216, y217, y218, y219, y220, y221, y222, y223, y224, y225, y226, y227, y228, y229, y230, y231, y232, y233], defers := [{ target := .collected D, args := #[] }] } W') :
    Code.wp Tryd.prog (tl 13 (bodyOf Tryd.f3)) Q { tmps := #[.slice a0 l.length cap, u1, .pointer (some ⟨w.heap.size, 0, none⟩), .slice (some ⟨gr, 0, none⟩) (l.length + 3) cr, .int .i64 (l.length : Nat), .pointer (some ⟨gA, 0, none⟩), .func (.func 18) #[] #[.pointer (some ⟨gK, 0, none⟩)], v, u8, u9, .pointer (some ⟨gW, 0, none⟩), u11, u12, u13, u14, u15, u16, u17, u18, u19, u20, u21, u22, u23, u24, u25, u26, u27, u28, u29, u30, u31, u32, u33, u34, u35, u36, u37, u38, u39, u40, u41, u42, u43, u44, u45, u46, u47, u48, u49, u50, u51, u52, u53, u54, u55, u56, u57, u58, u59, u60, u61, u62, u63, u64, u65, u66, u67, u68, u69, u70, u71, u72, u73, u74, u75, u76, u77, u78, u79, u80, u81, u82, u83, u84, u85, u86, u87, u88, u89, u90, u91, u92, u93, u94, u95, u96, u97, u98, u99, u100, u101, u102, u103, u104, u105, u106, u107, u108, u109, u110, u111, u112, u113, u114, u115, u116, u117, u118, u119, u120, u121, u122, u123, u124, u125, u126, u127, u128, u129, u130, u131, u132, u133, u134, u135, u136, u137, u138, u139, u140, u141, u142, u143, u144, u145, u146, u147, u148, u149, u150, u151, u152, u153, u154, u155, u156, u157, u158, u159, u160, u161, u162, u163, u164, u165, u166, u167, u168, u169, u170, u171, u172, u173, u174, u175, u176, u177, u178, u179, u180, u181, u182, u183, u184, u185, u186, u187, u188, u189, u190, u191, u192, u193, u194, u195, u196, u197, u198, u199, u200, u201, u202, u203, u204, u205, u206, u207, u208, u209, u210, u211, u212, u213, u214, u215, u216, u217, u218, u219, u220, u221, u222, u223, u224, u225, u226, u227, u228, u229, u230, u231, u232, u233], defers := [] } W := by
  rw [show tl 13 (bodyOf Tryd.f3) = .seq (hdc (tl 13 (bodyOf Tryd.f3))) (.seq (hdc (tl 14 (bodyOf Tryd.f3))) (tl 15 (bodyOf Tryd.f3))) from rfl]
  generalize tl 15 (bodyOf Tryd.f3) = T at *
  simp only [hdc, tl, bodyOf, Tryd.f3, Option.getD_some]
  have HK := hide hK
  have HL := hide hl
  have hsl := spots_le l
  clear hK hl
  have dc := (Below.refl W.heap.size W).alloc (Nat.le_refl _) (.cells #[.int .i64 0] 3)
  have bC := Boxed.new W 3 (.int .i64 0)
  have wc := ws.on dc
  have ca := wc.kb.ca
  have zc : (W.alloc (.cells #[.int .i64 0] 3)).heap.size = W.heap.size + 1 := by simp
  go_wp2_with fail
  generalize W.alloc (.cells #[.int .i64 0] 3) = wz at *
  generalize hgC : W.heap.size = gC at *
  have hgs : gS < gC := by rw [← hgC]; exact Nat.lt_of_lt_of_le ws.kb.rs.2 ws.kb.hi'
  have hst := all_stops gS gC l wz wc.kb.cs hgs (by omega) wc.tab (by omega) (by unfold maxLen; omega) (unhide HL)
  refine (wpIn_wide (n := 3)).1 ?_
  refine range_skip1 (by decide) (gf := 15) (lb := #[.pointer (some ⟨gS, 0, none⟩)]) rfl (enters_of Tryd.func15 (by kernel_rfl) rfl) hst (by omega) (Below.refl _ _) (fun _ => rfl)
    8 (cntE wz gC) (fun W' => wz.grownBy W' (some gC)) (cntE_own wz gC) (grownE_own wz gC) ⟨grown_refl _ _, bC, by simp⟩ ?body (fun _ _ h => h.1) ?q ?fin
  case q => intro a w h; exact h
  case body =>
    rintro lo' pre x W2 hlo ⟨hg, hbx, h3⟩ hlt
    unfold encS
    have hbW : Below W.heap.size W W2 := by rw [hgC]; exact dc.grown hg (by omega) (fun j e => by cases e; exact Nat.le_refl _)
    have ws2 := ws.on hbW
    have ca2 := ws2.kb.ca
    clear ca wc dc bC
    gi_wp2_with fail
    refine ⟨by first | trivial | (intro e; cases e), ?_⟩
    refine (CallsIn.inRound _ (callsIn_wide.2 (gone_allH gS l W2 ws2.kb.cs (Nat.lt_of_lt_of_le ws2.kb.rs.2 ws2.kb.hi') ws2.tab (unhide HL) lB))).mono ?_
    rintro e w3 ⟨a1, c1, a2, c2, rfl, j1, n1, x3⟩
    have bx3 : Boxed w3 gC 3 (.int .i64 pre.length) := (x3.block _ hbx.lt).trans hbx
    have hc := bx3.cell
    have hf := bx3.frozen
    have hs3 := x3.size
    have hzz := hg.size
    have b4 := bx3.set (.int .i64 ((pre.length : Int) + 1))
    have x3c : Below gC W2 w3 := x3.mono (by omega)
    have o4 : KeepsOthers W2 (w3.setCell ⟨gC, 0, none⟩ (.int .i64 ((pre.length : Int) + 1))) := (others_below x3).trans (KeepsOthers.setCell w3 ⟨gC, 0, none⟩ _)
    have k4 : KeepsWalks W2 (w3.setCell ⟨gC, 0, none⟩ (.int .i64 ((pre.length : Int) + 1))) := (walks_below x3).trans (KeepsWalks.setCell _ _ _)
    have y4 : Below gC W2 (w3.setCell ⟨gC, 0, none⟩ (.int .i64 ((pre.length : Int) + 1))) := x3c.setCell (p := ⟨gC, 0, none⟩) (Nat.le_refl _) _
    have g4 := grown_trans (grown_trans hg (grown_below none x3) (fun j e => by cases e)) (grownBy_setCell' w3 gC (.int .i64 ((pre.length : Int) + 1))) (fun j e => by cases e; exact Or.inl rfl)
    have ws4 := ws.on (hbW.trans (by rw [hgC]; exact y4))
    have cw4 := ws4.bw.cell
    have s4 := ws4.sw
    have j4 := j1.row (grownBy_setCell' w3 gC (.int .i64 ((pre.length : Int) + 1))) (fun g e => by have := n1 g e; omega)
    clear ws
    clear ws4
    dsimp only
    by_cases hearly : 3 ≤ pre.length
    · gi_wp2_with fail
      exact ⟨o4.from _, rfl, g4⟩
    · gi_wp2_with fail
      refine ⟨by first | trivial | (intro e; cases e), ?_⟩
      refine (CallsIn.inRound _ (callsIn_wide.2 (Same_at a2 aw c2 cw l (spots l 0) _ j4 s4 (by omega)))).mono ?_
      rintro e w5 ⟨rfl, q5⟩
      dsimp only
      gi_wp2_with fail
      have x5 := quiet_below q5 (w3.setCell ⟨gC, 0, none⟩ (.int .i64 ((pre.length : Int) + 1))).heap.size
      have b5 : Boxed w5 gC 3 (.int .i64 ((pre ++ [x]).length : Nat)) := by rw [List.length_append]; exact (x5.block _ b4.lt).trans b4
      have g5 := grown_trans g4 (grown_below none x5) (fun j e => by cases e)
      exact ⟨(o4.trans (others_below x5)).from _, ⟨y4.trans (x5.mono (Nat.le_of_lt b4.lt)), k4.trans (walks_below x5)⟩, g5, b5, by rw [List.length_append, List.length_singleton]; omega⟩
  case fin =>
    rintro D W2 hD hg hKD
    have hbW : Below W.heap.size W W2 := by rw [hgC]; exact dc.grown hg (by omega) (fun j e => by cases e; exact Nat.le_refl _)
    have ws2 := ws.on hbW
    have ws2k := ws2.kb
    have ws2l := ws2.ll
    clear ca wc ws dc bC ws2
    go_wp2_with fail
    exact unhide HK _ _ _ _ _ _ _ _ _ _ _ _ _ _ _ _ _ _ _ _ _ _ _ _ _ _ _ _ _ _ _ _ _ _ _ _ _ _ _ _ _ _ _ _ _ _ _ _ _ _ _ _ _ _ _ _ _ _ _ _ _ _ _ _ _ _ _ _ _ _ _ _ _ _ _ _ _ _ _ _ _ _ _ _ _ _ _ _ _ _ _ _ _ _ _ _ _ _ _ _ _ _ _ _ _ _ _ _ _ _ _ _ _ _ _ _ _ _ _ _ _ _ _ _ _ _ _ _ _ _ _ _ _ _ _ _ _ _ _ _ _ _ _ _ _ _ _ _ _ _ _ _ _ _ _ _ _ _ _ _ _ _ _ _ _ _ _ _ _ _ _ _ _ _ _ _ _ _ _ _ _ _ _ _ _ _ _ _ _ _ _ _ _ _ _ _ _ _ _ _ _ _ _ _ _ _ _ _ _ _ _ _ _ _ _ _ _ _ _ _ _ _ _ _ _ _ _ D W2 (by omega) hKD ws2k ws2l

end Go.Proofs.YtbkageelholpeaaDoor
