/- StepKeeps, part C: the bytes stay; the room is written over. -/
import Derived.Test.YtbkageelholpeaaDoorKpu
import Derived.Deep.DeepCutAuto
import Derived.Deep.RegionHeldLaw
import Derived.Deep.RegionWith
namespace Go.Proofs.YtbkageelholpeaaDoor
open Go.ChangeShapes Go.WideShapes Go.ChangeAt Go.RowKit

set_option maxRecDepth 100000 in
set_option maxHeartbeats 16000000 in
theorem keC {w W : World} {l : List Int} {a0 : Option Addr} {cap gA gS gK : Nat} {ak : Option Addr} {ck lo hi gr cr B0 : Nat} {Q : Exit → Act → World → Prop} {gs : List (Nat × Nat)} (u1 u8 u9 u10 u11 u12 u13 u14 u15 u16 u17 u18 u19 u20 u21 u22 u23 u24 u25 u26 u27 u28 u29 u30 u31 u32 u33 u34 u35 u36 u37 u38 u39 u40 u41 u42 u43 u44 u45 u46 u47 u48 u49 u50 u51 u52 u53 u54 u55 u56 u57 u58 u59 u60 u61 u62 u63 u64 u65 u66 u67 u68 u69 u70 u71 u72 u73 u74 u75 u76 u77 u78 u79 u80 u81 u82 u83 u84 u85 u86 u87 u88 u89 u90 u91 u92 u93 u94 u95 u96 u97 u98 u99 u100 u101 u102 u103 u104 u105 u106 u107 u108 u109 u110 u111 u112 u113 u114 u115 u116 u117 u118 u119 u120 u121 u122 u123 u124 u125 u126 u127 u128 u129 u130 u131 u132 u133 u134 u135 u136 u137 u138 u139 u140 u141 u142 u143 u144 u145 u146 u147 u148 u149 u150 u151 u152 u153 u154 u155 u156 u157 u158 u159 u160 u161 u162 u163 u164 u165 u166 u167 u168 u169 u170 u171 u172 u173 u174 u175 u176 u177 u178 u179 u180 u181 u182 u183 u184 u185 u186 u187 u188 u189 u190 u191 u192 u193 u194 u195 u196 u197 u198 u199 u200 u201 u202 u203 u204 u205 u206 u207 u208 u209 u210 u211 u212 u213 u214 u215 u216 u217 u218 u219 u220 u221 u222 u223 u224 u225 u226 u227 u228 u229 u230 u231 u232 u233 v : Value) (lB : l.length ≤ 1048576) (hB : IsB w a0 cap l) (hgr : w.heap.size < gr ∧ gr < lo)
    (sa : SA w l gA gS gK ak ck lo hi gr cr B0 (l ++ [91, 92, 93]) v gs W)
    (hK : ∀ (y1 y8 y9 y10 y11 y12 y13 y14 y15 y16 y17 y18 y19 y20 y21 y22 y23 y24 y25 y26 y27 y28 y29 y30 y31 y32 y33 y34 y35 y36 y37 y38 y39 y40 y41 y42 y43 y44 y45 y46 y47 y48 y49 y50 y51 y52 y53 y54 y55 y56 y57 y58 y59 y60 y61 y62 y63 y64 y65 y66 y67 y68 y69 y70 y71 y72 y73 y74 y75 y76 y77 y78 y79 y80 y81 y82 y83 y84 y85 y86 y87 y88 y89 y90 y91 y92 y93 y94 y95 y96 y97 y98 y99 y100 y101 y102 y103 y104 y105 y106 y107 y108 y109 y110 y111 y112 y113 y114 y115 y116 y117 y118 y119 y120 y121 y122 y123 y124 y125 y126 y127 y128 y129 y130 y131 y132 y133 y134 y135 y136 y137 y138 y139 y140 y141 y142 y143 y144 y145 y146 y147 y148 y149 y150 y151 y152 y153 y154 y155 y156 y157 y158 y159 y160 y161 y162 y163 y164 y165 y166 y167 y168 y169 y170 y171 y172 y173 y174 y175 y176 y177 y178 y179 y180 y181 y182 y183 y184 y185 y186 y187 y188 y189 y190 y191 y192 y193 y194 y195 y196 y197 y198 y199 y200 y201 y202 y203 y204 y205 y206 y207 y208 y209 y210 y211 y212 y213 y214 y215 y216 y217 y218 y219 y220 y221 y222 y223 y224 y225 y226 y227 y228 y229 y230 y231 y232 y233 : Value) (W : World), KB w l gA gS gK ak ck lo hi W → LL W hi v (runesL l).length gs → Code.wp Tryd.prog (tl 11 (bodyOf Tryd.f3)) Q { tmps := #[.slice a0 l.length cap, y1, .pointer (some ⟨w.heap.size, 0, none⟩), .slice (some ⟨gr, 0, none⟩) (l.length + 3) cr, .int .i64 (l.length : Nat), .pointer (some ⟨gA, 0, none⟩), .func (.func 18) #[] #[.pointer (some ⟨gK, 0, none⟩)], v, y8, y9, y10, y11, y12, y13, y14, y15, y16, y17, y18, y19, y20, y21, y22, y23, y24, y25, y26, y27, y28, y29, y30, y31, y32, y33, y34, y35, y36, y37, y38, y39, y40, y41, y42, y43, y44, y45, y46, y47, y48, y49, y50, y51, y52, y53, y54, y55, y56, y57, y58, y59, y60, y61, y62, y63, y64, y65, y66, y67, y68, y69, y70, y71, y72, y73, y74, y75, y76, y77, y78, y79, y80, y81, y82, y83, y84, y85, y86, y87, y88, y89, y90, y91, y92, y93, y94, y95, y96, y97, y98, y99, y100, y101, y102, y103, y104, y105, y106, y107, y108, y109, y110, y111, y112, y113, y114, y115, y116, y117, y118, y119, y120, y121, y122, y123, y124, y125, y126, y127, y128, y129, y130, y131, y132, y133, y134, y135, y136, y137, y138, y139, y140, y141, y142, y143, y144, y145, y146, y147, y148, y149, y150, y151, y152, y153, y154, y155, y156, y157, y158, y159, y160, y161, y162, y163, y164, y165, y166, y167, y168, y169, y170, y171, y172, y173, y174, y175, y176, y177, y178, y179, y180, y181, y182, y183, y184, y185, y186, y187, y188, y189, y190, y191, y192, y193, y194, y195, y196, y197, y198, y199, y200, y201, y202, y203, y204, y205, y206, y207, y208, y209, y210, y211, y212, y213, y214, y215, y216, y217, y218, y219, y220, y221, y222, y223, y224, y225, y226, y227, y228, y229, y230, y231, y232, y233], defers := [] } W) :
    Code.wp Tryd.prog (tl 7 (bodyOf Tryd.f3)) Q { tmps := #[.slice a0 l.length cap, u1, .pointer (some ⟨w.heap.size, 0, none⟩), .slice (some ⟨gr, 0, none⟩) (l.length + 3) cr, .int .i64 (l.length : Nat), .pointer (some ⟨gA, 0, none⟩), .func (.func 18) #[] #[.pointer (some ⟨gK, 0, none⟩)], v, u8, u9, u10, u11, u12, u13, u14, u15, u16, u17, u18, u19, u20, u21, u22, u23, u24, u25, u26, u27, u28, u29, u30, u31, u32, u33, u34, u35, u36, u37, u38, u39, u40, u41, u42, u43, u44, u45, u46, u47, u48, u49, u50, u51, u52, u53, u54, u55, u56, u57, u58, u59, u60, u61, u62, u63, u64, u65, u66, u67, u68, u69, u70, u71, u72, u73, u74, u75, u76, u77, u78, u79, u80, u81, u82, u83, u84, u85, u86, u87, u88, u89, u90, u91, u92, u93, u94, u95, u96, u97, u98, u99, u100, u101, u102, u103, u104, u105, u106, u107, u108, u109, u110, u111, u112, u113, u114, u115, u116, u117, u118, u119, u120, u121, u122, u123, u124, u125, u126, u127, u128, u129, u130, u131, u132, u133, u134, u135, u136, u137, u138, u139, u140, u141, u142, u143, u144, u145, u146, u147, u148, u149, u150, u151, u152, u153, u154, u155, u156, u157, u158, u159, u160, u161, u162, u163, u164, u165, u166, u167, u168, u169, u170, u171, u172, u173, u174, u175, u176, u177, u178, u179, u180, u181, u182, u183, u184, u185, u186, u187, u188, u189, u190, u191, u192, u193, u194, u195, u196, u197, u198, u199, u200, u201, u202, u203, u204, u205, u206, u207, u208, u209, u210, u211, u212, u213, u214, u215, u216, u217, u218, u219, u220, u221, u222, u223, u224, u225, u226, u227, u228, u229, u230, u231, u232, u233], defers := [] } W := by
  rw [show tl 7 (bodyOf Tryd.f3) = .seq (hdc (tl 7 (bodyOf Tryd.f3))) (.seq (hdc (tl 8 (bodyOf Tryd.f3))) (.seq (hdc (tl 9 (bodyOf Tryd.f3))) (.seq (hdc (tl 10 (bodyOf Tryd.f3))) (tl 11 (bodyOf Tryd.f3))))) from rfl]
  generalize tl 11 (bodyOf Tryd.f3) = T at *
  simp only [hdc, tl, bodyOf, Tryd.f3, Option.getD_some]
  have HK := hide hK
  have HL := hide hB.2.2.2
  have hrW := room_isB sa.room (unhide HL) lB
  have hrc := hrW.1
  clear hK
  go_wp2_with fail
  refine (Valid_at _ cr l W hrW sa.tab).mono ?_
  rintro e w1 ⟨rfl, x1⟩
  have sa1 := sa.on x1
  have hr1 := room_isB sa1.room (unhide HL) lB
  dsimp only
  go_wp2_with fail
  refine (Floor_at _ cr _ l w1 hr1 sa1.tab).mono ?_
  rintro e w2 ⟨rfl, x2⟩
  have sa2 := sa1.on x2
  have hB2 := hB.below sa2.kb.below (Nat.le_refl _)
  have kf := str_lies w2 gr 0 cr (l ++ [91, 92, 93]) (sa2.room.lies (abc_in (unhide HL)))
  rw [List.length_append, show ([91, 92, 93] : List Int).length = 3 from rfl, str_abc] at kf
  have kb := str_bs w2 a0 cap l hB2.2.2.1
  have hcat : (strOfNums l).size + (⟨#[91, 92, 93]⟩ : ByteArray).size ≤ 9223372036854775807 := by rw [strOfNums_size]; show l.length + 3 ≤ _; omega
  have hadd : (Op.stringOp .add (strOfNums l) ⟨#[91, 92, 93]⟩).run Tryd.prog w2 = .ok (.string (strOfNums l ++ ⟨#[91, 92, 93]⟩)) w2 := run_string_add_sum _ _ _ hcat
  have hq := eqnil_func
  have ca := sa2.kb.ca
  clear sa sa1 hr1 hrW x1 x2
  dsimp only
  go_wp2_with fail
  go_loopw [88] (fun i wx => ∃ (k : Nat) (F : List Int), k ≤ l.length + 3 ∧ i = .int .i64 k ∧ F.length = l.length + 3 ∧ Hid (Own wx B0 (.slice (some ⟨gr, 0, none⟩) (l.length + 3) cr) F) ∧ w2.grownBy wx (some gr)) (fun i _ => l.length + 3 - (intOf i).toNat)
  case atStart => exact ⟨0, l ++ [91, 92, 93], Nat.zero_le _, rfl, by simp, hide sa2.room, grown_refl _ _⟩
  case round =>
    obtain ⟨k, F, hk, rfl, hF, hof, hg⟩ := hrel
    by_cases hlt : k < l.length + 3
    · obtain ⟨hc1, hc2⟩ := (unhide hof).cell k (by omega)
      obtain ⟨cv, hcv⟩ := Option.isSome_iff_exists.1 hc1
      have hst := (unhide hof).set k 120
      have hgr2 := grown_trans hg (grown_set wr gr k (.int .u8 120)) (fun j e => Or.inl (by cases e; rfl))
      clear kf kb hadd hq ca
      go_wp2
      go_roundw
      case rel => exact ⟨k + 1, F.set k 120, by omega, by go_num, by rw [List.length_set]; exact hF, hide hst, hgr2⟩
      case measure => simp [intOf]; omega
    · have hkb := sa2.kb.kept hg (fun j e => by cases e; exact ⟨hgr.1, Or.inl hgr.2⟩)
      have hll := sa2.ll.low hg (by have := sa2.kb.ra; omega)
      clear kf kb hadd hq ca
      go_wp2_with fail
      exact unhide HK _ _ _ _ _ _ _ _ _ _ _ _ _ _ _ _ _ _ _ _ _ _ _ _ _ _ _ _ _ _ _ _ _ _ _ _ _ _ _ _ _ _ _ _ _ _ _ _ _ _ _ _ _ _ _ _ _ _ _ _ _ _ _ _ _ _ _ _ _ _ _ _ _ _ _ _ _ _ _ _ _ _ _ _ _ _ _ _ _ _ _ _ _ _ _ _ _ _ _ _ _ _ _ _ _ _ _ _ _ _ _ _ _ _ _ _ _ _ _ _ _ _ _ _ _ _ _ _ _ _ _ _ _ _ _ _ _ _ _ _ _ _ _ _ _ _ _ _ _ _ _ _ _ _ _ _ _ _ _ _ _ _ _ _ _ _ _ _ _ _ _ _ _ _ _ _ _ _ _ _ _ _ _ _ _ _ _ _ _ _ _ _ _ _ _ _ _ _ _ _ _ _ _ _ _ _ _ _ _ _ _ _ _ _ _ _ _ _ _ _ _ _ _ _ _ _ _ wr hkb hll

end Go.Proofs.YtbkageelholpeaaDoor
