/- The walk of StepKeeps, for arguments under the bound. -/
import Derived.Test.YtbkageelholpeaaDoorKeB
import Derived.Test.YtbkageelholpeaaDoorKeC
import Derived.Test.YtbkageelholpeaaDoorKeD
import Derived.Test.YtbkageelholpeaaDoorKeE
import Derived.Test.YtbkageelholpeaaDoorKeF
import Derived.Deep.DeepCutAuto
import Derived.Deep.RegionHeldLaw
import Derived.Deep.RegionWith
namespace Go.Proofs.YtbkageelholpeaaDoor
open Go.ChangeShapes Go.WideShapes Go.ChangeAt Go.RowKit

set_option maxRecDepth 100000 in
set_option maxHeartbeats 16000000 in
theorem StepKeeps_any (a0 : Option Addr) (cap : Nat) (l : List Int) (w : World) (hB : IsB w a0 cap l) (qb : cap ≤ 1048576) (hT : Tab w) :
    Calls Tryd.prog 3 #[.slice a0 l.length cap] w fun e w' => e = .returned (.bool true) ∧ Below w.heap.size w w' := by
  have lB : l.length ≤ 1048576 := Nat.le_trans hB.1 qb
  have HLB := hide hB.2.2.2
  have HB := hide hB
  have HT := hide hT
  have L := Nat.le_refl w.heap.size
  refine (callsIn_wide (n := 3)).1 ?_
  refine callsIn_of_wp_marks Tryd.func3 rfl trivial ?_ rfl
  simp only [Tryd.ntmps3, List.size_toArray, List.length_cons, List.length_nil, Nat.reduceAdd, Nat.reduceSub, Array.replicate_succ, Array.replicate_zero, List.push_toArray, List.append_toArray, List.nil_append, List.cons_append]
  refine wpIn_wide.2 ?_
  have d0 := (Below.refl w.heap.size w).alloc (Nat.le_refl _) (.cells #[.bool false] 4)
  have bR0 := Boxed.new w 4 (.bool false)
  have hT0 := hT.below d0 hT.size
  go_wp2_with fail
  generalize w.alloc (.cells #[.bool false] 4) = w0 at *
  refine (fixed_any w0 hT0).mono ?_
  rintro e w1 ⟨rfl, x1⟩
  have y1 : Below w.heap.size w w1 := bchain L d0 x1
  have bR1 : Boxed w1 w.heap.size 4 (.bool false) := (x1.block _ bR0.lt).trans bR0
  have hB1 := hB.below y1 (Nat.le_refl _)
  obtain ⟨w2, hm, o2, x2⟩ := make_u8 w1 (l.length + 3) (by omega)
  rw [show ((l.length + 3 : Nat) : Int) = (l.length : Int) + 3 by omega] at hm
  have s1 := y1.size
  have s2 := x2.size
  have hB2 := hB1.below x2 (Nat.le_refl _)
  obtain ⟨g3, c3, w3, r3, o3, x3, g31, g32⟩ := run_more w2 w1.heap.size w1.heap.size (l.length + 3) [] l a0 cap 22 o2 hB2 s2 (by simp; omega)
  simp only [List.length_nil, Nat.zero_add, List.nil_append] at r3 o3
  have s3 := x3.size
  obtain ⟨v4, w4, r4, o4, x4⟩ := o3.push3 91 92 93 (by omega) (by omega)
  obtain ⟨gr, cr, e4, gr1, gr2, _⟩ := o4.form (by simp)
  rw [List.length_append, show ([91, 92, 93] : List Int).length = 3 from rfl] at e4
  subst e4
  have s4 := x4.size
  have y4 : Below w.heap.size w w4 := ((y1.trans (x2.mono s1)).trans (x3.mono s1)).trans (x4.mono s1)
  have R3 := hide r3
  have R4 := hide r4
  have hrB := room_isB o4 (unhide HLB) lB
  have hrc := hrB.1
  have z1 := bR1.lt
  have bR4 : Boxed w4 w.heap.size 4 (.bool false) := (x4.block _ bR1.lt).trans ((x3.block _ bR1.lt).trans ((x2.block _ bR1.lt).trans bR1))
  clear r3 r4 o2 o3 hB1 hB2 bR0 bR1 hT0 d0
  go_wp2_with (first
    | (at_builtin; refine wpList_append_known rfl _ _ 22 22 rfl _ _ rfl rfl _ _ (unhide R3) ?_)
    | (at_builtin; refine wpList_append_known rfl _ _ 22 22 rfl _ _ rfl rfl _ _ (unhide R4) ?_))
  go_cut [5, 6] from 31 to 233 (fun p b wz => ∃ (gA gS gK : Nat) (ak : Option Addr) (ck : Nat), p = .pointer (some ⟨gA, 0, none⟩) ∧ b = .func (.func 18) #[] #[.pointer (some ⟨gK, 0, none⟩)] ∧ Hid (KB w l gA gS gK ak ck w4.heap.size wz.heap.size wz ∧ Below w4.heap.size w4 wz))
  case first =>
    refine wp_onlyG ?_
    have hrD : IsB w4.drew (some ⟨gr, 0, none⟩) cr l := hrB
    have hw4 : w.heap.size < w4.heap.size := by omega
    have xD : Below w4.heap.size w4 w4.drew := (Below.refl _ _).drew
    go_region_with (first
      | (go_at_call 5; refine (All_new _ cr l _ (by first | exact hrD | exact hrD.below ((Below.refl _ _).alloc (Nat.le_refl _) _) (Nat.le_refl _))).mono ?_; rintro e w5 ⟨gS, rfl, zS, cS, x5⟩)
      | (go_at_call 6; refine (Back_new _ cr l _ (by first | exact hrD.below x5 (Nat.le_refl _) | exact (hrD.below x5 (Nat.le_refl _)).below ((Below.refl _ _).alloc (Nat.le_refl _) _) (Nat.le_refl _) | exact (hrD.below ((Below.refl _ _).alloc (Nat.le_refl _) _) (Nat.le_refl _)).below x5 (Nat.le_refl _))).mono ?_; rintro e w6 ⟨gK, ak, ck, rfl, zK, cK, bK, iK, x6⟩
         first
         | (have bx : Boxed w6 w5.heap.size 25 .nilFunc := (x6.block _ (by simp)).trans (Boxed.new w5 _ .nilFunc)
            have bc := bx.cell
            have bf := bx.frozen)
         | (have bx0 : Boxed w5 w4.heap.size 25 .nilFunc := (x5.block _ (by simp)).trans (Boxed.new w4.drew _ .nilFunc)
            have bx : Boxed w6 w4.heap.size 25 .nilFunc := (x6.block _ bx0.lt).trans bx0
            have bc := bx.cell
            have bf := bx.frozen)
         | skip))
    all_goals unfold onlyG
    all_goals go_wp2_with fail
    all_goals go_meet
    · have x45 : Below w4.heap.size w4 w5 := bchain (Nat.le_refl _) xD x5
      have x46 := bchain (Nat.le_refl _) x45 x6
      have s5 := x45.size
      have s6 := x6.size
      have t1 : w4.heap.size ≤ gS := zS.1
      exact ⟨w6.heap.size, gS, gK, ak, ck, rfl, rfl, hide (KB.make hw4 y4 bR4 x46 (World.grownBy_alloc w6 _ none) (fun k e => by cases e) (Boxed.new w6 _ _) (by omega) ((x6.cell (p := ⟨gS, 0, none⟩) zS.2).trans cS) ⟨t1, by omega⟩ (by omega) cK ⟨by omega, zK.2⟩ (by omega) bK (fun k e => by have := iK k e; omega))⟩
    · have x45 : Below w4.heap.size w4 w5 := bchain (Nat.le_refl _) xD x5
      have xa : Below w5.heap.size w5 (w5.alloc (.cells #[.nilFunc] 25)) := (Below.refl _ _).alloc (Nat.le_refl _) _
      have x46 := bchain (Nat.le_refl _) (bchain (Nat.le_refl _) x45 xa) x6
      have s5 := x45.size
      have s6 := x6.size
      rw [World.size_alloc] at s6
      obtain ⟨zK1, zK2⟩ := zK
      rw [World.size_alloc] at zK1
      have t1 : w4.heap.size ≤ gS := zS.1
      have t2 := zS.2
      exact ⟨w5.heap.size, gS, gK, ak, ck, rfl, rfl, hide (KB.make hw4 y4 bR4 x46 (grown_set w6 w5.heap.size 0 _) (fun k e => (Option.some.inj e).symm) (bx.set _) (by omega) ((x6.cell (p := ⟨gS, 0, none⟩) (by simp; omega)).trans ((xa.cell (p := ⟨gS, 0, none⟩) zS.2).trans cS)) ⟨t1, by omega⟩ (by omega) cK ⟨by omega, zK2⟩ (by omega) bK (fun k e => by have := iK k e; rw [World.size_alloc] at this; omega))⟩
    · have xa : Below w4.heap.size w4 (w4.drew.alloc (.cells #[.nilFunc] 25)) := xD.alloc (Nat.le_refl _) _
      have x45 := bchain (Nat.le_refl _) xa x5
      have x46 := bchain (Nat.le_refl _) x45 x6
      have s5 := x5.size
      have s6 := x6.size
      have za : (w4.alloc (.cells #[.nilFunc] 25)).drew.heap.size = w4.heap.size + 1 := by simp
      have t1 := zS.1
      have t2 := zS.2
      exact ⟨w4.heap.size, gS, gK, ak, ck, rfl, rfl, hide (KB.make hw4 y4 bR4 x46 (grown_set w6 w4.heap.size 0 _) (fun k e => (Option.some.inj e).symm) (bx.set _) (Nat.le_refl _) ((x6.cell (p := ⟨gS, 0, none⟩) zS.2).trans cS) ⟨by omega, by omega⟩ (by omega) cK ⟨by omega, zK.2⟩ (by omega) bK (fun k e => by have := iK k e; omega))⟩
  case rest =>
    obtain ⟨gA, gS, gK, ak, ck, rfl, rfl, hk⟩ := hcut
    obtain ⟨kb5, x5⟩ := unhide hk
    clear hk
    have o5 : Own wc w1.heap.size (.slice (some ⟨gr, 0, none⟩) (l.length + 3) cr) (l ++ [91, 92, 93]) := o4.below x5
    have hgr : w.heap.size < gr ∧ gr < w4.heap.size := ⟨by omega, gr2⟩
    have hmr := runesL_le l
    clear R3 R4 hm
    go_step
    change Code.wp Tryd.prog (tl 5 (bodyOf Tryd.f3)) _ _ wc
    refine keB _ _ _ _ _ _ _ _ _ _ _ _ _ _ _ _ _ _ _ _ _ _ _ _ _ _ _ _ _ _ _ _ _ _ _ _ _ _ _ _ _ _ _ _ _ _ _ _ _ _ _ _ _ _ _ _ _ _ _ _ _ _ _ _ _ _ _ _ _ _ _ _ _ _ _ _ _ _ _ _ _ _ _ _ _ _ _ _ _ _ _ _ _ _ _ _ _ _ _ _ _ _ _ _ _ _ _ _ _ _ _ _ _ _ _ _ _ _ _ _ _ _ _ _ _ _ _ _ _ _ _ _ _ _ _ _ _ _ _ _ _ _ _ _ _ _ _ _ _ _ _ _ _ _ _ _ _ _ _ _ _ _ _ _ _ _ _ _ _ _ _ _ _ _ _ _ _ _ _ _ _ _ _ _ _ _ _ _ _ _ _ _ _ _ _ _ _ _ _ _ _ _ _ _ _ _ _ _ _ _ _ _ _ _ _ _ _ _ _ _ _ _ _ _ _ _ _ _ lB (unhide HLB) o5 ?_
    intro y1 y8 y9 y10 y11 y12 y13 y14 y15 y16 y17 y18 y19 y20 y21 y22 y23 y24 y25 y26 y27 y28 y29 y30 y31 y32 y33 y34 y35 y36 y37 y38 y39 y40 y41 y42 y43 y44 y45 y46 y47 y48 y49 y50 y51 y52 y53 y54 y55 y56 y57 y58 y59 y60 y61 y62 y63 y64 y65 y66 y67 y68 y69 y70 y71 y72 y73 y74 y75 y76 y77 y78 y79 y80 y81 y82 y83 y84 y85 y86 y87 y88 y89 y90 y91 y92 y93 y94 y95 y96 y97 y98 y99 y100 y101 y102 y103 y104 y105 y106 y107 y108 y109 y110 y111 y112 y113 y114 y115 y116 y117 y118 y119 y120 y121 y122 y123 y124 y125 y126 y127 y128 y129 y130 y131 y132 y133 y134 y135 y136 y137 y138 y139 y140 y141 y142 y143 y144 y145 y146 y147 y148 y149 y150 y151 y152 y153 y154 y155 y156 y157 y158 y159 y160 y161 y162 y163 y164 y165 y166 y167 y168 y169 y170 y171 y172 y173 y174 y175 y176 y177 y178 y179 y180 y181 y182 y183 y184 y185 y186 y187 y188 y189 y190 y191 y192 y193 y194 y195 y196 y197 y198 y199 y200 y201 y202 y203 y204 y205 y206 y207 y208 y209 y210 y211 y212 y213 y214 y215 y216 y217 y218 y219 y220 y221 y222 y223 y224 y225 y226 y227 y228 y229 y230 y231 y232 y233 v gs W1 hgs hll hb6
    have kb6 := kb5.on hb6
    refine keC _ _ _ _ _ _ _ _ _ _ _ _ _ _ _ _ _ _ _ _ _ _ _ _ _ _ _ _ _ _ _ _ _ _ _ _ _ _ _ _ _ _ _ _ _ _ _ _ _ _ _ _ _ _ _ _ _ _ _ _ _ _ _ _ _ _ _ _ _ _ _ _ _ _ _ _ _ _ _ _ _ _ _ _ _ _ _ _ _ _ _ _ _ _ _ _ _ _ _ _ _ _ _ _ _ _ _ _ _ _ _ _ _ _ _ _ _ _ _ _ _ _ _ _ _ _ _ _ _ _ _ _ _ _ _ _ _ _ _ _ _ _ _ _ _ _ _ _ _ _ _ _ _ _ _ _ _ _ _ _ _ _ _ _ _ _ _ _ _ _ _ _ _ _ _ _ _ _ _ _ _ _ _ _ _ _ _ _ _ _ _ _ _ _ _ _ _ _ _ _ _ _ _ _ _ _ _ _ _ _ _ _ _ _ _ _ _ _ _ _ _ _ _ _ _ _ _ v lB (unhide HB) hgr ⟨kb6, o5.below hb6, hll, (unhide HT).below kb6.below (unhide HT).size⟩ ?_
    intro y1 y8 y9 y10 y11 y12 y13 y14 y15 y16 y17 y18 y19 y20 y21 y22 y23 y24 y25 y26 y27 y28 y29 y30 y31 y32 y33 y34 y35 y36 y37 y38 y39 y40 y41 y42 y43 y44 y45 y46 y47 y48 y49 y50 y51 y52 y53 y54 y55 y56 y57 y58 y59 y60 y61 y62 y63 y64 y65 y66 y67 y68 y69 y70 y71 y72 y73 y74 y75 y76 y77 y78 y79 y80 y81 y82 y83 y84 y85 y86 y87 y88 y89 y90 y91 y92 y93 y94 y95 y96 y97 y98 y99 y100 y101 y102 y103 y104 y105 y106 y107 y108 y109 y110 y111 y112 y113 y114 y115 y116 y117 y118 y119 y120 y121 y122 y123 y124 y125 y126 y127 y128 y129 y130 y131 y132 y133 y134 y135 y136 y137 y138 y139 y140 y141 y142 y143 y144 y145 y146 y147 y148 y149 y150 y151 y152 y153 y154 y155 y156 y157 y158 y159 y160 y161 y162 y163 y164 y165 y166 y167 y168 y169 y170 y171 y172 y173 y174 y175 y176 y177 y178 y179 y180 y181 y182 y183 y184 y185 y186 y187 y188 y189 y190 y191 y192 y193 y194 y195 y196 y197 y198 y199 y200 y201 y202 y203 y204 y205 y206 y207 y208 y209 y210 y211 y212 y213 y214 y215 y216 y217 y218 y219 y220 y221 y222 y223 y224 y225 y226 y227 y228 y229 y230 y231 y232 y233 W2 kb7 ll7
    refine keD _ _ _ _ _ _ _ _ _ _ _ _ _ _ _ _ _ _ _ _ _ _ _ _ _ _ _ _ _ _ _ _ _ _ _ _ _ _ _ _ _ _ _ _ _ _ _ _ _ _ _ _ _ _ _ _ _ _ _ _ _ _ _ _ _ _ _ _ _ _ _ _ _ _ _ _ _ _ _ _ _ _ _ _ _ _ _ _ _ _ _ _ _ _ _ _ _ _ _ _ _ _ _ _ _ _ _ _ _ _ _ _ _ _ _ _ _ _ _ _ _ _ _ _ _ _ _ _ _ _ _ _ _ _ _ _ _ _ _ _ _ _ _ _ _ _ _ _ _ _ _ _ _ _ _ _ _ _ _ _ _ _ _ _ _ _ _ _ _ _ _ _ _ _ _ _ _ _ _ _ _ _ _ _ _ _ _ _ _ _ _ _ _ _ _ _ _ _ _ _ _ _ _ _ _ _ _ _ _ _ _ _ _ _ _ _ _ _ _ _ _ _ _ _ _ _ _ v lB (unhide HB) (unhide HT) kb7 ll7 ?_
    intro y1 y8 y9 y11 y12 y13 y14 y15 y16 y17 y18 y19 y20 y21 y22 y23 y24 y25 y26 y27 y28 y29 y30 y31 y32 y33 y34 y35 y36 y37 y38 y39 y40 y41 y42 y43 y44 y45 y46 y47 y48 y49 y50 y51 y52 y53 y54 y55 y56 y57 y58 y59 y60 y61 y62 y63 y64 y65 y66 y67 y68 y69 y70 y71 y72 y73 y74 y75 y76 y77 y78 y79 y80 y81 y82 y83 y84 y85 y86 y87 y88 y89 y90 y91 y92 y93 y94 y95 y96 y97 y98 y99 y100 y101 y102 y103 y104 y105 y106 y107 y108 y109 y110 y111 y112 y113 y114 y115 y116 y117 y118 y119 y120 y121 y122 y123 y124 y125 y126 y127 y128 y129 y130 y131 y132 y133 y134 y135 y136 y137 y138 y139 y140 y141 y142 y143 y144 y145 y146 y147 y148 y149 y150 y151 y152 y153 y154 y155 y156 y157 y158 y159 y160 y161 y162 y163 y164 y165 y166 y167 y168 y169 y170 y171 y172 y173 y174 y175 y176 y177 y178 y179 y180 y181 y182 y183 y184 y185 y186 y187 y188 y189 y190 y191 y192 y193 y194 y195 y196 y197 y198 y199 y200 y201 y202 y203 y204 y205 y206 y207 y208 y209 y210 y211 y212 y213 y214 y215 y216 y217 y218 y219 y220 y221 y222 y223 y224 y225 y226 y227 y228 y229 y230 y231 y232 y233 gW aw cw W3 ws3
    refine keE _ _ _ _ _ _ _ _ _ _ _ _ _ _ _ _ _ _ _ _ _ _ _ _ _ _ _ _ _ _ _ _ _ _ _ _ _ _ _ _ _ _ _ _ _ _ _ _ _ _ _ _ _ _ _ _ _ _ _ _ _ _ _ _ _ _ _ _ _ _ _ _ _ _ _ _ _ _ _ _ _ _ _ _ _ _ _ _ _ _ _ _ _ _ _ _ _ _ _ _ _ _ _ _ _ _ _ _ _ _ _ _ _ _ _ _ _ _ _ _ _ _ _ _ _ _ _ _ _ _ _ _ _ _ _ _ _ _ _ _ _ _ _ _ _ _ _ _ _ _ _ _ _ _ _ _ _ _ _ _ _ _ _ _ _ _ _ _ _ _ _ _ _ _ _ _ _ _ _ _ _ _ _ _ _ _ _ _ _ _ _ _ _ _ _ _ _ _ _ _ _ _ _ _ _ _ _ _ _ _ _ _ _ _ _ _ _ _ _ _ _ _ _ _ _ _ v lB (unhide HLB) ws3 ?_
    intro y1 y8 y9 y10 y11 y12 y13 y14 y15 y16 y17 y18 y19 y20 y21 y22 y23 y24 y25 y26 y27 y28 y29 y30 y31 y32 y33 y34 y35 y36 y37 y38 y39 y40 y41 y42 y43 y44 y45 y46 y47 y48 y49 y50 y51 y52 y53 y54 y55 y56 y57 y58 y59 y60 y61 y62 y63 y64 y65 y66 y67 y68 y69 y70 y71 y72 y73 y74 y75 y76 y77 y78 y79 y80 y81 y82 y83 y84 y85 y86 y87 y88 y89 y90 y91 y92 y93 y94 y95 y96 y97 y98 y99 y100 y101 y102 y103 y104 y105 y106 y107 y108 y109 y110 y111 y112 y113 y114 y115 y116 y117 y118 y119 y120 y121 y122 y123 y124 y125 y126 y127 y128 y129 y130 y131 y132 y133 y134 y135 y136 y137 y138 y139 y140 y141 y142 y143 y144 y145 y146 y147 y148 y149 y150 y151 y152 y153 y154 y155 y156 y157 y158 y159 y160 y161 y162 y163 y164 y165 y166 y167 y168 y169 y170 y171 y172 y173 y174 y175 y176 y177 y178 y179 y180 y181 y182 y183 y184 y185 y186 y187 y188 y189 y190 y191 y192 y193 y194 y195 y196 y197 y198 y199 y200 y201 y202 y203 y204 y205 y206 y207 y208 y209 y210 y211 y212 y213 y214 y215 y216 y217 y218 y219 y220 y221 y222 y223 y224 y225 y226 y227 y228 y229 y230 y231 y232 y233 D W4 hD hdk kb8 ll8
    obtain ⟨gl, cl, hv, _⟩ := OwnL.cell ll8.own (by omega)
    rw [hgs] at hv
    subst hv
    have hlo := kb8.lo'
    have hra := kb8.ra
    have hhi := ws3.kb.hi'
    have ts4 : TS w wc.heap.size W4.heap.size D (.slice (some ⟨gl, 0, none⟩) 5 cl) (runesL l).length gs W4 := ⟨kb8.cr, hdk, ll8, kb8.below, ⟨heap_lt hdk, by omega, fun p hp e => by have := ws3.ll.lt hp; omega⟩, ⟨by omega, kb8.cr.lt⟩, ⟨fun p hp => ll8.lt hp, fun k e => (World.ownsRow.lt ll8.own k e).2⟩, Nat.le_refl _⟩
    refine keF _ _ _ _ _ _ _ _ _ _ _ _ _ _ _ _ _ _ _ _ _ _ _ _ _ _ _ _ _ _ _ _ _ _ _ _ _ _ _ _ _ _ _ _ _ _ _ _ _ _ _ _ _ _ _ _ _ _ _ _ _ _ _ _ _ _ _ _ _ _ _ _ _ _ _ _ _ _ _ _ _ _ _ _ _ _ _ _ _ _ _ _ _ _ _ _ _ _ _ _ _ _ _ _ _ _ _ _ _ _ _ _ _ _ _ _ _ _ _ _ _ _ _ _ _ _ _ _ _ _ _ _ _ _ _ _ _ _ _ _ _ _ _ _ _ _ _ _ _ _ _ _ _ _ _ _ _ _ _ _ _ _ _ _ _ _ _ _ _ _ _ _ _ _ _ _ _ _ _ _ _ _ _ _ _ _ _ _ _ _ _ _ _ _ _ _ _ _ _ _ _ _ _ _ _ _ _ _ _ _ _ _ _ _ _ _ _ _ _ _ _ _ _ _ _ _ _ _ _ _ _ _ hgs (by omega) ts4 ?_
    intro y0 y1 y3 y4 y5 y6 y8 y9 y10 y11 y12 y13 y14 y15 y16 y17 y18 y19 y20 y21 y22 y23 y24 y25 y26 y27 y28 y29 y30 y31 y32 y33 y34 y35 y36 y37 y38 y39 y40 y41 y42 y43 y44 y45 y46 y47 y48 y49 y50 y51 y52 y53 y54 y55 y56 y57 y58 y59 y60 y61 y62 y63 y64 y65 y66 y67 y68 y69 y70 y71 y72 y73 y74 y75 y76 y77 y78 y79 y80 y81 y82 y83 y84 y85 y86 y87 y88 y89 y90 y91 y92 y93 y94 y95 y96 y97 y98 y99 y100 y101 y102 y103 y104 y105 y106 y107 y108 y109 y110 y111 y112 y113 y114 y115 y116 y117 y118 y119 y120 y121 y122 y123 y124 y125 y126 y127 y128 y129 y130 y131 y132 y133 y134 y135 y136 y137 y138 y139 y140 y141 y142 y143 y144 y145 y146 y147 y148 y149 y150 y151 y152 y153 y154 y155 y156 y157 y158 y159 y160 y161 y162 y163 y164 y165 y166 y167 y168 y169 y170 y171 y172 y173 y174 y175 y176 y177 y178 y179 y180 y181 y182 y183 y184 y185 y186 y187 y188 y189 y190 y191 y192 y193 y194 y195 y196 y197 y198 y199 y200 y201 y202 y203 y204 y205 y206 y207 y208 y209 y210 y211 y212 y213 y214 y215 y216 y217 y218 y219 y220 y221 y222 y223 y224 y225 y226 y227 y228 y229 y230 y231 y232 y233 W5 ts5 fl5
    refine keG _ _ _ _ _ _ _ _ _ _ _ _ _ _ _ _ _ _ _ _ _ _ _ _ _ _ _ _ _ _ _ _ _ _ _ _ _ _ _ _ _ _ _ _ _ _ _ _ _ _ _ _ _ _ _ _ _ _ _ _ _ _ _ _ _ _ _ _ _ _ _ _ _ _ _ _ _ _ _ _ _ _ _ _ _ _ _ _ _ _ _ _ _ _ _ _ _ _ _ _ _ _ _ _ _ _ _ _ _ _ _ _ _ _ _ _ _ _ _ _ _ _ _ _ _ _ _ _ _ _ _ _ _ _ _ _ _ _ _ _ _ _ _ _ _ _ _ _ _ _ _ _ _ _ _ _ _ _ _ _ _ _ _ _ _ _ _ _ _ _ _ _ _ _ _ _ _ _ _ _ _ _ _ _ _ _ _ _ _ _ _ _ _ _ _ _ _ _ _ _ _ _ _ _ _ _ _ _ _ _ _ _ _ _ _ _ _ _ _ _ _ _ _ _ _ _ _ _ _ _ _ _ hgs ts5 fl5 ?_
    intro y0 y1 y3 y4 y5 y6 y8 y9 y10 y11 y12 y13 y14 y15 y16 y17 y18 y19 y20 y21 y22 y24 y25 y26 y27 y28 y29 y30 y31 y32 y33 y34 y35 y36 y37 y38 y39 y40 y41 y42 y43 y44 y45 y46 y47 y48 y49 y50 y51 y52 y53 y54 y55 y56 y57 y58 y59 y60 y61 y62 y63 y64 y65 y66 y67 y68 y69 y70 y71 y72 y73 y74 y75 y76 y77 y78 y79 y80 y81 y82 y83 y84 y85 y86 y87 y88 y89 y90 y91 y92 y93 y94 y95 y96 y97 y98 y99 y100 y101 y102 y103 y104 y105 y106 y107 y108 y109 y110 y111 y112 y113 y114 y115 y116 y117 y118 y119 y120 y121 y122 y123 y124 y125 y126 y127 y128 y129 y130 y131 y132 y133 y134 y135 y136 y137 y138 y139 y140 y141 y142 y143 y144 y145 y146 y147 y148 y149 y150 y151 y152 y153 y154 y155 y156 y157 y158 y159 y160 y161 y162 y163 y164 y165 y166 y167 y168 y169 y170 y171 y172 y173 y174 y175 y176 y177 y178 y179 y180 y181 y182 y183 y184 y185 y186 y187 y188 y189 y190 y191 y192 y193 y194 y195 y196 y197 y198 y199 y200 y201 y202 y203 y204 y205 y206 y207 y208 y209 y210 y211 y212 y213 y214 y215 y216 y217 y218 y219 y220 y221 y222 y223 y224 y225 y226 y227 y228 y229 y230 y231 y232 y233 gg cg hs W6 ts6 fl6 gr6
    refine keH _ _ _ _ _ _ _ _ _ _ _ _ _ _ _ _ _ _ _ _ _ _ _ _ _ _ _ _ _ _ _ _ _ _ _ _ _ _ _ _ _ _ _ _ _ _ _ _ _ _ _ _ _ _ _ _ _ _ _ _ _ _ _ _ _ _ _ _ _ _ _ _ _ _ _ _ _ _ _ _ _ _ _ _ _ _ _ _ _ _ _ _ _ _ _ _ _ _ _ _ _ _ _ _ _ _ _ _ _ _ _ _ _ _ _ _ _ _ _ _ _ _ _ _ _ _ _ _ _ _ _ _ _ _ _ _ _ _ _ _ _ _ _ _ _ _ _ _ _ _ _ _ _ _ _ _ _ _ _ _ _ _ _ _ _ _ _ _ _ _ _ _ _ _ _ _ _ _ _ _ _ _ _ _ _ _ _ _ _ _ _ _ _ _ _ _ _ _ _ _ _ _ _ _ _ _ _ _ _ _ _ _ _ _ _ _ _ _ _ _ _ _ _ _ _ _ _ _ _ _ _ hgs (by omega) ts6 fl6 gr6 ?_
    intro y0 y1 y3 y4 y5 y6 y7 y8 y9 y10 y11 y12 y13 y14 y15 y16 y17 y18 y19 y20 y21 y22 y23 y24 y25 y26 y27 y28 y29 y30 y31 y32 y33 y34 y35 y36 y37 y38 y39 y40 y41 y42 y43 y44 y45 y46 y47 y48 y49 y50 y51 y52 y53 y54 y55 y56 y57 y58 y59 y60 y61 y62 y63 y64 y65 y66 y67 y68 y69 y70 y71 y72 y73 y74 y75 y76 y77 y78 y79 y80 y81 y82 y83 y84 y85 y86 y87 y88 y89 y90 y91 y92 y93 y94 y95 y96 y97 y98 y99 y100 y101 y102 y103 y104 y105 y106 y107 y108 y109 y110 y111 y112 y113 y114 y115 y116 y117 y118 y119 y120 y121 y122 y123 y124 y125 y126 y127 y128 y129 y130 y131 y132 y133 y134 y135 y136 y137 y138 y139 y140 y141 y142 y143 y144 y145 y146 y147 y148 y149 y150 y151 y152 y153 y154 y155 y156 y157 y158 y159 y160 y161 y162 y163 y164 y165 y166 y167 y168 y169 y170 y171 y172 y173 y174 y175 y176 y177 y178 y179 y180 y181 y182 y183 y184 y185 y186 y187 y188 y189 y190 y191 y192 y193 y194 y195 y196 y197 y198 y199 y200 y201 y202 y203 y204 y205 y206 y207 y208 y209 y210 y211 y212 y213 y214 y215 y216 y217 y218 y219 y220 y221 y222 y223 y224 y225 y226 y227 y228 y229 y230 y231 y232 y233
    exact keI _ rfl ts6.cr ts6.dk ts6.below ts6.hD.2.1

end Go.Proofs.YtbkageelholpeaaDoor
