/- StepKeeps, parts F to I: the lists are written, each with its number; each is grown, and its neighbours stay; the answer. -/
import Derived.Test.YtbkageelholpeaaDoorKpu
import Derived.Deep.DeepCutAuto
import Derived.Deep.RegionHeldLaw
import Derived.Deep.RegionWith
namespace Go.Proofs.YtbkageelholpeaaDoor
open Go.ChangeShapes Go.WideShapes Go.ChangeAt Go.RowKit

set_option maxRecDepth 100000 in
set_option maxHeartbeats 16000000 in
theorem keF {w W : World} {B S D gl cl m : Nat} {gs : List (Nat × Nat)} {Q : Exit → Act → World → Prop} (u0 u1 u3 u4 u5 u6 u8 u9 u10 u11 u12 u13 u14 u15 u16 u17 u18 u19 u20 u21 u22 u23 u24 u25 u26 u27 u28 u29 u30 u31 u32 u33 u34 u35 u36 u37 u38 u39 u40 u41 u42 u43 u44 u45 u46 u47 u48 u49 u50 u51 u52 u53 u54 u55 u56 u57 u58 u59 u60 u61 u62 u63 u64 u65 u66 u67 u68 u69 u70 u71 u72 u73 u74 u75 u76 u77 u78 u79 u80 u81 u82 u83 u84 u85 u86 u87 u88 u89 u90 u91 u92 u93 u94 u95 u96 u97 u98 u99 u100 u101 u102 u103 u104 u105 u106 u107 u108 u109 u110 u111 u112 u113 u114 u115 u116 u117 u118 u119 u120 u121 u122 u123 u124 u125 u126 u127 u128 u129 u130 u131 u132 u133 u134 u135 u136 u137 u138 u139 u140 u141 u142 u143 u144 u145 u146 u147 u148 u149 u150 u151 u152 u153 u154 u155 u156 u157 u158 u159 u160 u161 u162 u163 u164 u165 u166 u167 u168 u169 u170 u171 u172 u173 u174 u175 u176 u177 u178 u179 u180 u181 u182 u183 u184 u185 u186 u187 u188 u189 u190 u191 u192 u193 u194 u195 u196 u197 u198 u199 u200 u201 u202 u203 u204 u205 u206 u207 u208 u209 u210 u211 u212 u213 u214 u215 u216 u217 u218 u219 u220 u221 u222 u223 u224 u225 u226 u227 u228 u229 u230 u231 u232 u233 : Value) (hgs : gs.length = 5) (hm : m ≤ 4194304) (ts : TS w B S D (.slice (some ⟨gl, 0, none⟩) 5 cl) m gs W)
    (hK : ∀ (y0 y1 y3 y4 y5 y6 y8 y9 y10 y11 y12 y13 y14 y15 y16 y17 y18 y19 y20 y21 y22 y23 y24 y25 y26 y27 y28 y29 y30 y31 y32 y33 y34 y35 y36 y37 y38 y39 y40 y41 y42 y43 y44 y45 y46 y47 y48 y49 y50 y51 y52 y53 y54 y55 y56 y57 y58 y59 y60 y61 y62 y63 y64 y65 y66 y67 y68 y69 y70 y71 y72 y73 y74 y75 y76 y77 y78 y79 y80 y81 y82 y83 y84 y85 y86 y87 y88 y89 y90 y91 y92 y93 y94 y95 y96 y97 y98 y99 y100 y101 y102 y103 y104 y105 y106 y107 y108 y109 y110 y111 y112 y113 y114 y115 y116 y117 y118 y119 y120 y121 y122 y123 y124 y125 y126 y127 y128 y129 y130 y131 y132 y133 y134 y135 y136 y137 y138 y139 y140 y141 y142 y143 y144 y145 y146 y147 y148 y149 y150 y151 y152 y153 y154 y155 y156 y157 y158 y159 y160 y161 y162 y163 y164 y165 y166 y167 y168 y169 y170 y171 y172 y173 y174 y175 y176 y177 y178 y179 y180 y181 y182 y183 y184 y185 y186 y187 y188 y189 y190 y191 y192 y193 y194 y195 y196 y197 y198 y199 y200 y201 y202 y203 y204 y205 y206 y207 y208 y209 y210 y211 y212 y213 y214 y215 y216 y217 y218 y219 y220 y221 y222 y223 y224 y225 y226 y227 y228 y229 y230 y231 y232 y233 : Value) (W' : World), TS w B S D (.slice (some ⟨gl, 0, none⟩) 5 cl) m gs W' → FL gs m 5 W' → Code.wp Tryd.prog (tl 16 (bodyOf Tryd.f3)) Q { tmps := #[y0, y1, .pointer (some ⟨w.heap.size, 0, none⟩), y3, y4, y5, y6, .slice (some ⟨gl, 0, none⟩) 5 cl, y8, y9, y10, y11, y12, y13, y14, y15, y16, y17, y18, y19, y20, y21, y22, y23, y24, y25, y26, y27, y28, y29, y30, y31, y32, y33, y34, y35, y36, y37, y38, y39, y40, y41, y42, y43, y44, y45, y46, y47, y48, y49, y50, y51, y52, y53, y54, y55, y56, y57, y58, y59, y60, y61, y62, y63, y64, y65, y66, y67, y68, y69, y70, y71, y72, y73, y74, y75, y76, y77, y78, y79, y80, y81, y82, y83, y84, y85, y86, y87, y88, y89, y90, y91, y92, y93, y94, y95, y96, y97, y98, y99, y100, y101, y102, y103, y104, y105, y106, y107, y108, y109, y110, y111, y112, y113, y114, y115, y116, y117, y118, y119, y120, y121, y122, y123, y124, y125, y126, y127, y128, y129, y130, y131, y132, y133, y134, y135, y136, y137, y138, y139, y140, y141, y142, y143, y144, y145, y146, y147, y148, y149, y150, y151, y152, y153, y154, y155, y156, y157, y158, y159, y160, y161, y162, y163, y164, y165, y166, y167, y168, y169, y170, y171, y172, y173, y174, y175, y176, y177, y178, y179, y180, y181, y182, y183, y184, y185, y186, y187, y188, y189, y190, y191, y192, y193, y194, y195, y196, y197, y198, y199, y200, y201, y202, y203, y204, y205, y206, y207, y208, y209, y210, y211, y212, y213, y214, y215, y216, y217, y218, y219, y220, y221, y222, y223, y224, y225, y226, y227, y228, y229, y230, y231, y232, y233], defers := [{ target := .collected D, args := #[] }] } W') :
    Code.wp Tryd.prog (tl 15 (bodyOf Tryd.f3)) Q { tmps := #[u0, u1, .pointer (some ⟨w.heap.size, 0, none⟩), u3, u4, u5, u6, .slice (some ⟨gl, 0, none⟩) 5 cl, u8, u9, u10, u11, u12, u13, u14, u15, u16, u17, u18, u19, u20, u21, u22, u23, u24, u25, u26, u27, u28, u29, u30, u31, u32, u33, u34, u35, u36, u37, u38, u39, u40, u41, u42, u43, u44, u45, u46, u47, u48, u49, u50, u51, u52, u53, u54, u55, u56, u57, u58, u59, u60, u61, u62, u63, u64, u65, u66, u67, u68, u69, u70, u71, u72, u73, u74, u75, u76, u77, u78, u79, u80, u81, u82, u83, u84, u85, u86, u87, u88, u89, u90, u91, u92, u93, u94, u95, u96, u97, u98, u99, u100, u101, u102, u103, u104, u105, u106, u107, u108, u109, u110, u111, u112, u113, u114, u115, u116, u117, u118, u119, u120, u121, u122, u123, u124, u125, u126, u127, u128, u129, u130, u131, u132, u133, u134, u135, u136, u137, u138, u139, u140, u141, u142, u143, u144, u145, u146, u147, u148, u149, u150, u151, u152, u153, u154, u155, u156, u157, u158, u159, u160, u161, u162, u163, u164, u165, u166, u167, u168, u169, u170, u171, u172, u173, u174, u175, u176, u177, u178, u179, u180, u181, u182, u183, u184, u185, u186, u187, u188, u189, u190, u191, u192, u193, u194, u195, u196, u197, u198, u199, u200, u201, u202, u203, u204, u205, u206, u207, u208, u209, u210, u211, u212, u213, u214, u215, u216, u217, u218, u219, u220, u221, u222, u223, u224, u225, u226, u227, u228, u229, u230, u231, u232, u233], defers := [{ target := .collected D, args := #[] }] } W := by
  rw [show tl 15 (bodyOf Tryd.f3) = .seq (hdc (tl 15 (bodyOf Tryd.f3))) (tl 16 (bodyOf Tryd.f3)) from rfl]
  generalize tl 16 (bodyOf Tryd.f3) = T at *
  simp only [hdc, tl, bodyOf, Tryd.f3, Option.getD_some]
  have HK := hide hK
  clear hK
  go_wp2_with fail
  go_loopw [159] (fun i wx => ∃ k : Nat, k ≤ 5 ∧ i = .int .i64 k ∧ Hid (TS w B S D (.slice (some ⟨gl, 0, none⟩) 5 cl) m gs wx ∧ FL gs m k wx)) (fun i _ => 5 - (intOf i).toNat)
  case atStart => exact ⟨0, by omega, rfl, hide ⟨ts, fun j hj => absurd hj (Nat.not_lt_zero _)⟩⟩
  case round =>
    obtain ⟨k, hk, rfl, hh⟩ := hrel
    obtain ⟨wo, hwo⟩ : ∃ wo, wo = wr := ⟨_, rfl⟩
    subst hwo
    by_cases hlt : k < 5
    · have hc := (unhide hh).1.ll.get hgs hlt
      have hp := getP_mem (gs := gs) (j := k) (by omega)
      have hrow := (unhide hh).1.ll.rr.rows _ hp
      unfold sl at hrow
      obtain ⟨gk, hgk⟩ : ∃ g, (gs.getD k (0, 0)).1 = g := ⟨_, rfl⟩
      obtain ⟨ck, hck⟩ : ∃ c, (gs.getD k (0, 0)).2 = c := ⟨_, rfl⟩
      rw [hgk, hck] at hc hrow
      have HGK := hide hgk
      have HCK := hide hck
      have HP := hide hp
      have HR := hide hrow
      have hw : IntKind.i32.wrap (k : Int) = (k : Int) := by rw [IntKind.wrap_i32]; omega
      clear hgk hck hp hrow
      go_wp2_with fail
      go_loopw [166] (fun i wx => ∃ j : Nat, j ≤ m ∧ i = .int .i64 j ∧ Hid (RwX .i32 4194304 wx (.slice (some ⟨gk, 0, none⟩) m ck)) ∧ wo.grownBy wx (some gk) ∧ Hid (∀ i', i' < j → wx.cell? ⟨gk, i', none⟩ = some (.int .i32 (k : Nat)))) (fun i _ => m - (intOf i).toNat)
      case atStart => exact ⟨0, Nat.zero_le _, rfl, HR, grown_refl _ _, hide (fun _ h => absurd h (Nat.not_lt_zero _))⟩
      case round =>
        obtain ⟨j, hj, rfl, hr, hg, hcs⟩ := hrel
        by_cases hlt2 : j < m
        · rcases unhide hr with h0 | ⟨g', n', c', e', h1, h2, h3, h4, h5⟩
          · cases h0
          · simp only [Value.slice.injEq, Option.some.injEq, Addr.mk.injEq] at e'
            obtain ⟨⟨rfl, _⟩, rfl, rfl⟩ := e'
            obtain ⟨cb, hcb⟩ := h5 j hlt2
            have hf2 := (h4 j (by omega)).2
            have hso := (h4 j (by omega)).1
            have hst := rwX_set (unhide hr) j (k : Int) hlt2
            have hgr := grown_trans hg (grown_set wr gk j (.int .i32 (k : Int))) (fun q e => Or.inl (by cases e; rfl))
            have hcs2 : Hid (∀ i', i' < j + 1 → (wr.setCell ⟨gk, j, none⟩ (.int .i32 (k : Int))).cell? ⟨gk, i', none⟩ = some (.int .i32 (k : Nat))) := hide (fun i' hi' => by
              rw [cell_set hso]
              split
              · rfl
              · exact unhide hcs i' (by omega))
            clear h4 h5 hso
            go_wp2
            go_roundw
            case rel => exact ⟨j + 1, by omega, by go_num, hide hst, hgr, hcs2⟩
            case measure => simp [intOf]; omega
        · obtain rfl : j = m := by omega
          have ts2 := (unhide hh).1.one (unhide HP) (by rw [unhide HGK]; exact hg) (by unfold sl; rw [unhide HGK, unhide HCK]; exact unhide hr)
          have fl2 : FL gs j (k + 1) wr := fun q hq i hi => by
            by_cases e : q < k
            · exact (unhide hh).2.kept hg (fun q' hq' e' => (unhide hh).1.ll.apart (by omega) (by omega) (by omega : q' ≠ k) (by rw [unhide HGK]; exact (Option.some.inj e').symm)) q e i hi
            · obtain rfl : q = k := by omega
              rw [unhide HGK]
              exact unhide hcs i hi
          clear hc hr hcs
          go_wp2_with fail
          refine ⟨⟨k + 1, by omega, by go_num, hide ⟨ts2, fl2⟩⟩, ?_⟩
          simp [intOf]; omega
    · obtain rfl : k = 5 := by omega
      obtain ⟨ts2, fl2⟩ := unhide hh
      clear hh
      go_wp2_with fail
      exact unhide HK _ _ _ _ _ _ _ _ _ _ _ _ _ _ _ _ _ _ _ _ _ _ _ _ _ _ _ _ _ _ _ _ _ _ _ _ _ _ _ _ _ _ _ _ _ _ _ _ _ _ _ _ _ _ _ _ _ _ _ _ _ _ _ _ _ _ _ _ _ _ _ _ _ _ _ _ _ _ _ _ _ _ _ _ _ _ _ _ _ _ _ _ _ _ _ _ _ _ _ _ _ _ _ _ _ _ _ _ _ _ _ _ _ _ _ _ _ _ _ _ _ _ _ _ _ _ _ _ _ _ _ _ _ _ _ _ _ _ _ _ _ _ _ _ _ _ _ _ _ _ _ _ _ _ _ _ _ _ _ _ _ _ _ _ _ _ _ _ _ _ _ _ _ _ _ _ _ _ _ _ _ _ _ _ _ _ _ _ _ _ _ _ _ _ _ _ _ _ _ _ _ _ _ _ _ _ _ _ _ _ _ _ _ _ _ _ _ _ _ _ _ _ _ _ _ _ _ _ _ _ _ _ _ ts2 fl2

set_option maxRecDepth 100000 in
set_option maxHeartbeats 16000000 in
theorem keG {w W : World} {B S D gl cl m : Nat} {gs : List (Nat × Nat)} {Q : Exit → Act → World → Prop} (u0 u1 u3 u4 u5 u6 u8 u9 u10 u11 u12 u13 u14 u15 u16 u17 u18 u19 u20 u21 u22 u23 u24 u25 u26 u27 u28 u29 u30 u31 u32 u33 u34 u35 u36 u37 u38 u39 u40 u41 u42 u43 u44 u45 u46 u47 u48 u49 u50 u51 u52 u53 u54 u55 u56 u57 u58 u59 u60 u61 u62 u63 u64 u65 u66 u67 u68 u69 u70 u71 u72 u73 u74 u75 u76 u77 u78 u79 u80 u81 u82 u83 u84 u85 u86 u87 u88 u89 u90 u91 u92 u93 u94 u95 u96 u97 u98 u99 u100 u101 u102 u103 u104 u105 u106 u107 u108 u109 u110 u111 u112 u113 u114 u115 u116 u117 u118 u119 u120 u121 u122 u123 u124 u125 u126 u127 u128 u129 u130 u131 u132 u133 u134 u135 u136 u137 u138 u139 u140 u141 u142 u143 u144 u145 u146 u147 u148 u149 u150 u151 u152 u153 u154 u155 u156 u157 u158 u159 u160 u161 u162 u163 u164 u165 u166 u167 u168 u169 u170 u171 u172 u173 u174 u175 u176 u177 u178 u179 u180 u181 u182 u183 u184 u185 u186 u187 u188 u189 u190 u191 u192 u193 u194 u195 u196 u197 u198 u199 u200 u201 u202 u203 u204 u205 u206 u207 u208 u209 u210 u211 u212 u213 u214 u215 u216 u217 u218 u219 u220 u221 u222 u223 u224 u225 u226 u227 u228 u229 u230 u231 u232 u233 : Value) (hgs : gs.length = 5) (ts : TS w B S D (.slice (some ⟨gl, 0, none⟩) 5 cl) m gs W) (fl : FL gs m 5 W)
    (hK : ∀ (y0 y1 y3 y4 y5 y6 y8 y9 y10 y11 y12 y13 y14 y15 y16 y17 y18 y19 y20 y21 y22 y24 y25 y26 y27 y28 y29 y30 y31 y32 y33 y34 y35 y36 y37 y38 y39 y40 y41 y42 y43 y44 y45 y46 y47 y48 y49 y50 y51 y52 y53 y54 y55 y56 y57 y58 y59 y60 y61 y62 y63 y64 y65 y66 y67 y68 y69 y70 y71 y72 y73 y74 y75 y76 y77 y78 y79 y80 y81 y82 y83 y84 y85 y86 y87 y88 y89 y90 y91 y92 y93 y94 y95 y96 y97 y98 y99 y100 y101 y102 y103 y104 y105 y106 y107 y108 y109 y110 y111 y112 y113 y114 y115 y116 y117 y118 y119 y120 y121 y122 y123 y124 y125 y126 y127 y128 y129 y130 y131 y132 y133 y134 y135 y136 y137 y138 y139 y140 y141 y142 y143 y144 y145 y146 y147 y148 y149 y150 y151 y152 y153 y154 y155 y156 y157 y158 y159 y160 y161 y162 y163 y164 y165 y166 y167 y168 y169 y170 y171 y172 y173 y174 y175 y176 y177 y178 y179 y180 y181 y182 y183 y184 y185 y186 y187 y188 y189 y190 y191 y192 y193 y194 y195 y196 y197 y198 y199 y200 y201 y202 y203 y204 y205 y206 y207 y208 y209 y210 y211 y212 y213 y214 y215 y216 y217 y218 y219 y220 y221 y222 y223 y224 y225 y226 y227 y228 y229 y230 y231 y232 y233 : Value) (gg cg : Nat) (hs : List (Nat × Nat)) (W' : World), TS w B S D (.slice (some ⟨gl, 0, none⟩) 5 cl) m gs W' → FL gs m 5 W' → GR gs m S 5 (.slice (some ⟨gg, 0, none⟩) 5 cg) hs W' → Code.wp Tryd.prog (tl 18 (bodyOf Tryd.f3)) Q { tmps := #[y0, y1, .pointer (some ⟨w.heap.size, 0, none⟩), y3, y4, y5, y6, .slice (some ⟨gl, 0, none⟩) 5 cl, y8, y9, y10, y11, y12, y13, y14, y15, y16, y17, y18, y19, y20, y21, y22, .slice (some ⟨gg, 0, none⟩) 5 cg, y24, y25, y26, y27, y28, y29, y30, y31, y32, y33, y34, y35, y36, y37, y38, y39, y40, y41, y42, y43, y44, y45, y46, y47, y48, y49, y50, y51, y52, y53, y54, y55, y56, y57, y58, y59, y60, y61, y62, y63, y64, y65, y66, y67, y68, y69, y70, y71, y72, y73, y74, y75, y76, y77, y78, y79, y80, y81, y82, y83, y84, y85, y86, y87, y88, y89, y90, y91, y92, y93, y94, y95, y96, y97, y98, y99, y100, y101, y102, y103, y104, y105, y106, y107, y108, y109, y110, y111, y112, y113, y114, y115, y116, y117, y118, y119, y120, y121, y122, y123, y124, y125, y126, y127, y128, y129, y130, y131, y132, y133, y134, y135, y136, y137, y138, y139, y140, y141, y142, y143, y144, y145, y146, y147, y148, y149, y150, y151, y152, y153, y154, y155, y156, y157, y158, y159, y160, y161, y162, y163, y164, y165, y166, y167, y168, y169, y170, y171, y172, y173, y174, y175, y176, y177, y178, y179, y180, y181, y182, y183, y184, y185, y186, y187, y188, y189, y190, y191, y192, y193, y194, y195, y196, y197, y198, y199, y200, y201, y202, y203, y204, y205, y206, y207, y208, y209, y210, y211, y212, y213, y214, y215, y216, y217, y218, y219, y220, y221, y222, y223, y224, y225, y226, y227, y228, y229, y230, y231, y232, y233], defers := [{ target := .collected D, args := #[] }] } W') :
    Code.wp Tryd.prog (tl 16 (bodyOf Tryd.f3)) Q { tmps := #[u0, u1, .pointer (some ⟨w.heap.size, 0, none⟩), u3, u4, u5, u6, .slice (some ⟨gl, 0, none⟩) 5 cl, u8, u9, u10, u11, u12, u13, u14, u15, u16, u17, u18, u19, u20, u21, u22, u23, u24, u25, u26, u27, u28, u29, u30, u31, u32, u33, u34, u35, u36, u37, u38, u39, u40, u41, u42, u43, u44, u45, u46, u47, u48, u49, u50, u51, u52, u53, u54, u55, u56, u57, u58, u59, u60, u61, u62, u63, u64, u65, u66, u67, u68, u69, u70, u71, u72, u73, u74, u75, u76, u77, u78, u79, u80, u81, u82, u83, u84, u85, u86, u87, u88, u89, u90, u91, u92, u93, u94, u95, u96, u97, u98, u99, u100, u101, u102, u103, u104, u105, u106, u107, u108, u109, u110, u111, u112, u113, u114, u115, u116, u117, u118, u119, u120, u121, u122, u123, u124, u125, u126, u127, u128, u129, u130, u131, u132, u133, u134, u135, u136, u137, u138, u139, u140, u141, u142, u143, u144, u145, u146, u147, u148, u149, u150, u151, u152, u153, u154, u155, u156, u157, u158, u159, u160, u161, u162, u163, u164, u165, u166, u167, u168, u169, u170, u171, u172, u173, u174, u175, u176, u177, u178, u179, u180, u181, u182, u183, u184, u185, u186, u187, u188, u189, u190, u191, u192, u193, u194, u195, u196, u197, u198, u199, u200, u201, u202, u203, u204, u205, u206, u207, u208, u209, u210, u211, u212, u213, u214, u215, u216, u217, u218, u219, u220, u221, u222, u223, u224, u225, u226, u227, u228, u229, u230, u231, u232, u233], defers := [{ target := .collected D, args := #[] }] } W := by
  rw [show tl 16 (bodyOf Tryd.f3) = .seq (hdc (tl 16 (bodyOf Tryd.f3))) (.seq (hdc (tl 17 (bodyOf Tryd.f3))) (tl 18 (bodyOf Tryd.f3))) from rfl]
  generalize tl 18 (bodyOf Tryd.f3) = T at *
  simp only [hdc, tl, bodyOf, Tryd.f3, Option.getD_some]
  have HK := hide hK
  clear hK
  go_wp2_with fail
  go_loopw [23, 178] (fun gv i wx => ∃ (k : Nat) (hs : List (Nat × Nat)), k ≤ 5 ∧ i = .int .i64 k ∧ Hid (TS w B S D (.slice (some ⟨gl, 0, none⟩) 5 cl) m gs wx ∧ FL gs m 5 wx ∧ GR gs m S k gv hs wx)) (fun _ i _ => 5 - (intOf i).toNat)
  case atStart => exact ⟨0, [], by omega, rfl, hide ⟨ts, fl, GR.nil _ _ _ _⟩⟩
  case round =>
    obtain ⟨k, hs, hk, rfl, hh⟩ := hrel
    obtain ⟨wo, hwo⟩ : ∃ wo, wo = wr := ⟨_, rfl⟩
    subst hwo
    by_cases hlt : k < 5
    · have hc := (unhide hh).1.ll.get hgs hlt
      have hp := getP_mem (gs := gs) (j := k) (by omega)
      have hrow := (unhide hh).1.ll.rr.rows _ hp
      have hgl := (unhide hh).1.ll.lt hp
      unfold sl at hrow
      obtain ⟨gk, hgk⟩ : ∃ g, (gs.getD k (0, 0)).1 = g := ⟨_, rfl⟩
      obtain ⟨ck, hck⟩ : ∃ c, (gs.getD k (0, 0)).2 = c := ⟨_, rfl⟩
      rw [hgk, hck] at hc hrow
      rw [hgk] at hgl
      have HGK := hide hgk
      have HR := hide hrow
      have hw : IntKind.i32.wrap (100 + (k : Int)) = 100 + (k : Int) := by rw [IntKind.wrap_i32]; omega
      clear hgk hck hp hrow
      go_wp2_with fail
      have HLT := hide hlt
      simp only [show decide ((k : Int) < 5) = true from decide_eq_true (by omega)]
      go_loopw [26, 27] (fun gx i wx => ∃ j g' c' : Nat, j ≤ 32 ∧ i = .int .i64 j ∧ gx = .slice (some ⟨g', 0, none⟩) (m + j) c' ∧ Hid (g' = gk ∨ wo.heap.size ≤ g') ∧ Hid (RwX .i32 (4194304 + j) wx (.slice (some ⟨g', 0, none⟩) (m + j) c')) ∧ Spare gk m wo wx) (fun _ i _ => 32 - (intOf i).toNat)
      case atStart => exact ⟨0, gk, ck, by omega, rfl, rfl, hide (Or.inl rfl), HR, Spare.refl _ _ _⟩
      case round =>
        obtain ⟨j, g', c', hj, rfl, rfl, hat, hr, hsp⟩ := hrel
        by_cases hlt2 : j < 32
        · obtain ⟨g2, c2, w2, r2, rw2, sp2, at2, _⟩ := pushS wr (4194304 + j) g' (m + j) c' 7 28 (unhide hr) (by omega)
          have R2 := hide r2
          have sz2 := hsp.grown.size
          have sp3 : Spare gk m wo w2 := hsp.trans sp2 hgl (by
            rcases unhide hat with e | e
            · exact Or.inl ⟨e, by omega⟩
            · exact Or.inr e)
          have at3 : Hid (g2 = gk ∨ wo.heap.size ≤ g2) := hide (by
            rcases at2 with e | e
            · rw [e]; exact unhide hat
            · exact Or.inr (by omega))
          clear r2 hc
          go_wp2_with (at_builtin; refine wpList_append_known rfl _ _ 28 28 rfl _ _ rfl rfl _ _ (unhide R2) ?_)
          go_roundw
          case rel => exact ⟨j + 1, g2, c2, by omega, by go_num, rfl, at3, hide rw2, sp3⟩
          case measure => simp [intOf]; omega
        · obtain ⟨h, c, w2, r2, rw2, sp2, at2, hcell⟩ := pushS wr 4194304 gk m ck (100 + (k : Int)) 28 (hsp.row (unhide HR)) (by omega)
          have sz2 := hsp.grown.size
          have sp3 : Spare gk m wo w2 := hsp.trans sp2 hgl (Or.inl ⟨rfl, Nat.le_refl _⟩)
          obtain ⟨gv', w3, r3, ts3, fl3, gr3⟩ := GR.push (h := h) (c := c) 27 hgs (unhide HLT) (unhide hh).1 (unhide hh).2.1 (unhide hh).2.2 (by rw [unhide HGK]; exact sp3) (by
            rw [unhide HGK]
            rcases at2 with e | e
            · exact Or.inl e
            · exact Or.inr (by omega)) rw2.lt' hcell
          have R2 := hide r2
          have R3 := hide r3
          have HH3 := hide ts3
          have HF3 := hide fl3
          have HG3 := hide gr3
          clear r2 r3 hc ts3 fl3 gr3 hcell rw2 hr
          go_wp2_with (first
            | (at_builtin; refine wpList_append_known rfl _ _ 28 28 rfl _ _ rfl rfl _ _ (unhide R2) ?_)
            | (at_builtin; refine wpList_append_known rfl _ _ 27 27 rfl _ _ rfl rfl _ _ (unhide R3) ?_))
          refine ⟨⟨k + 1, hs ++ [(h, c)], by omega, by go_num, hide ⟨unhide HH3, unhide HF3, unhide HG3⟩⟩, ?_⟩
          simp [intOf]; omega
    · obtain rfl : k = 5 := by omega
      obtain ⟨ts2, fl2, gr2⟩ := unhide hh
      obtain ⟨gg, cg, rfl, _⟩ := gr2.get
      clear hh
      go_wp2_with fail
      exact unhide HK _ _ _ _ _ _ _ _ _ _ _ _ _ _ _ _ _ _ _ _ _ _ _ _ _ _ _ _ _ _ _ _ _ _ _ _ _ _ _ _ _ _ _ _ _ _ _ _ _ _ _ _ _ _ _ _ _ _ _ _ _ _ _ _ _ _ _ _ _ _ _ _ _ _ _ _ _ _ _ _ _ _ _ _ _ _ _ _ _ _ _ _ _ _ _ _ _ _ _ _ _ _ _ _ _ _ _ _ _ _ _ _ _ _ _ _ _ _ _ _ _ _ _ _ _ _ _ _ _ _ _ _ _ _ _ _ _ _ _ _ _ _ _ _ _ _ _ _ _ _ _ _ _ _ _ _ _ _ _ _ _ _ _ _ _ _ _ _ _ _ _ _ _ _ _ _ _ _ _ _ _ _ _ _ _ _ _ _ _ _ _ _ _ _ _ _ _ _ _ _ _ _ _ _ _ _ _ _ _ _ _ _ _ _ _ _ _ _ _ _ _ _ _ _ _ _ _ _ _ _ _ gg cg hs _ ts2 fl2 gr2

set_option maxRecDepth 100000 in
set_option maxHeartbeats 16000000 in
theorem keH {w W : World} {B S D gl cl m gg cg : Nat} {gs hs : List (Nat × Nat)} {Q : Exit → Act → World → Prop} (u0 u1 u3 u4 u5 u6 u8 u9 u10 u11 u12 u13 u14 u15 u16 u17 u18 u19 u20 u21 u22 u24 u25 u26 u27 u28 u29 u30 u31 u32 u33 u34 u35 u36 u37 u38 u39 u40 u41 u42 u43 u44 u45 u46 u47 u48 u49 u50 u51 u52 u53 u54 u55 u56 u57 u58 u59 u60 u61 u62 u63 u64 u65 u66 u67 u68 u69 u70 u71 u72 u73 u74 u75 u76 u77 u78 u79 u80 u81 u82 u83 u84 u85 u86 u87 u88 u89 u90 u91 u92 u93 u94 u95 u96 u97 u98 u99 u100 u101 u102 u103 u104 u105 u106 u107 u108 u109 u110 u111 u112 u113 u114 u115 u116 u117 u118 u119 u120 u121 u122 u123 u124 u125 u126 u127 u128 u129 u130 u131 u132 u133 u134 u135 u136 u137 u138 u139 u140 u141 u142 u143 u144 u145 u146 u147 u148 u149 u150 u151 u152 u153 u154 u155 u156 u157 u158 u159 u160 u161 u162 u163 u164 u165 u166 u167 u168 u169 u170 u171 u172 u173 u174 u175 u176 u177 u178 u179 u180 u181 u182 u183 u184 u185 u186 u187 u188 u189 u190 u191 u192 u193 u194 u195 u196 u197 u198 u199 u200 u201 u202 u203 u204 u205 u206 u207 u208 u209 u210 u211 u212 u213 u214 u215 u216 u217 u218 u219 u220 u221 u222 u223 u224 u225 u226 u227 u228 u229 u230 u231 u232 u233 : Value) (hgs : gs.length = 5) (hm : m ≤ 1048576) (ts : TS w B S D (.slice (some ⟨gl, 0, none⟩) 5 cl) m gs W) (fl : FL gs m 5 W) (gr : GR gs m S 5 (.slice (some ⟨gg, 0, none⟩) 5 cg) hs W)
    (hK : ∀ (y0 y1 y3 y4 y5 y6 y7 y8 y9 y10 y11 y12 y13 y14 y15 y16 y17 y18 y19 y20 y21 y22 y23 y24 y25 y26 y27 y28 y29 y30 y31 y32 y33 y34 y35 y36 y37 y38 y39 y40 y41 y42 y43 y44 y45 y46 y47 y48 y49 y50 y51 y52 y53 y54 y55 y56 y57 y58 y59 y60 y61 y62 y63 y64 y65 y66 y67 y68 y69 y70 y71 y72 y73 y74 y75 y76 y77 y78 y79 y80 y81 y82 y83 y84 y85 y86 y87 y88 y89 y90 y91 y92 y93 y94 y95 y96 y97 y98 y99 y100 y101 y102 y103 y104 y105 y106 y107 y108 y109 y110 y111 y112 y113 y114 y115 y116 y117 y118 y119 y120 y121 y122 y123 y124 y125 y126 y127 y128 y129 y130 y131 y132 y133 y134 y135 y136 y137 y138 y139 y140 y141 y142 y143 y144 y145 y146 y147 y148 y149 y150 y151 y152 y153 y154 y155 y156 y157 y158 y159 y160 y161 y162 y163 y164 y165 y166 y167 y168 y169 y170 y171 y172 y173 y174 y175 y176 y177 y178 y179 y180 y181 y182 y183 y184 y185 y186 y187 y188 y189 y190 y191 y192 y193 y194 y195 y196 y197 y198 y199 y200 y201 y202 y203 y204 y205 y206 y207 y208 y209 y210 y211 y212 y213 y214 y215 y216 y217 y218 y219 y220 y221 y222 y223 y224 y225 y226 y227 y228 y229 y230 y231 y232 y233 : Value), Q .ret { tmps := #[y0, y1, .pointer (some ⟨w.heap.size, 0, none⟩), y3, y4, y5, y6, y7, y8, y9, y10, y11, y12, y13, y14, y15, y16, y17, y18, y19, y20, y21, y22, y23, y24, y25, y26, y27, y28, y29, y30, y31, y32, y33, y34, y35, y36, y37, y38, y39, y40, y41, y42, y43, y44, y45, y46, y47, y48, y49, y50, y51, y52, y53, y54, y55, y56, y57, y58, y59, y60, y61, y62, y63, y64, y65, y66, y67, y68, y69, y70, y71, y72, y73, y74, y75, y76, y77, y78, y79, y80, y81, y82, y83, y84, y85, y86, y87, y88, y89, y90, y91, y92, y93, y94, y95, y96, y97, y98, y99, y100, y101, y102, y103, y104, y105, y106, y107, y108, y109, y110, y111, y112, y113, y114, y115, y116, y117, y118, y119, y120, y121, y122, y123, y124, y125, y126, y127, y128, y129, y130, y131, y132, y133, y134, y135, y136, y137, y138, y139, y140, y141, y142, y143, y144, y145, y146, y147, y148, y149, y150, y151, y152, y153, y154, y155, y156, y157, y158, y159, y160, y161, y162, y163, y164, y165, y166, y167, y168, y169, y170, y171, y172, y173, y174, y175, y176, y177, y178, y179, y180, y181, y182, y183, y184, y185, y186, y187, y188, y189, y190, y191, y192, y193, y194, y195, y196, y197, y198, y199, y200, y201, y202, y203, y204, y205, y206, y207, y208, y209, y210, y211, y212, y213, y214, y215, y216, y217, y218, y219, y220, y221, y222, y223, y224, y225, y226, y227, y228, y229, y230, y231, y232, y233], defers := [{ target := .collected D, args := #[] }] } (W.setCell ⟨w.heap.size, 0, none⟩ (.bool true))) :
    Code.wp Tryd.prog (tl 18 (bodyOf Tryd.f3)) Q { tmps := #[u0, u1, .pointer (some ⟨w.heap.size, 0, none⟩), u3, u4, u5, u6, .slice (some ⟨gl, 0, none⟩) 5 cl, u8, u9, u10, u11, u12, u13, u14, u15, u16, u17, u18, u19, u20, u21, u22, .slice (some ⟨gg, 0, none⟩) 5 cg, u24, u25, u26, u27, u28, u29, u30, u31, u32, u33, u34, u35, u36, u37, u38, u39, u40, u41, u42, u43, u44, u45, u46, u47, u48, u49, u50, u51, u52, u53, u54, u55, u56, u57, u58, u59, u60, u61, u62, u63, u64, u65, u66, u67, u68, u69, u70, u71, u72, u73, u74, u75, u76, u77, u78, u79, u80, u81, u82, u83, u84, u85, u86, u87, u88, u89, u90, u91, u92, u93, u94, u95, u96, u97, u98, u99, u100, u101, u102, u103, u104, u105, u106, u107, u108, u109, u110, u111, u112, u113, u114, u115, u116, u117, u118, u119, u120, u121, u122, u123, u124, u125, u126, u127, u128, u129, u130, u131, u132, u133, u134, u135, u136, u137, u138, u139, u140, u141, u142, u143, u144, u145, u146, u147, u148, u149, u150, u151, u152, u153, u154, u155, u156, u157, u158, u159, u160, u161, u162, u163, u164, u165, u166, u167, u168, u169, u170, u171, u172, u173, u174, u175, u176, u177, u178, u179, u180, u181, u182, u183, u184, u185, u186, u187, u188, u189, u190, u191, u192, u193, u194, u195, u196, u197, u198, u199, u200, u201, u202, u203, u204, u205, u206, u207, u208, u209, u210, u211, u212, u213, u214, u215, u216, u217, u218, u219, u220, u221, u222, u223, u224, u225, u226, u227, u228, u229, u230, u231, u232, u233], defers := [{ target := .collected D, args := #[] }] } W := by
  rw [show tl 18 (bodyOf Tryd.f3) = .seq (hdc (tl 18 (bodyOf Tryd.f3))) (.seq (hdc (tl 19 (bodyOf Tryd.f3))) (tl 20 (bodyOf Tryd.f3))) from rfl]
  simp only [hdc, tl, bodyOf, Tryd.f3, Option.getD_some]
  have HK := hide hK
  clear hK
  have HF := hide fl
  have HT := hide ts
  have hget := gr.get
  obtain ⟨gg', cg', e, hget⟩ := hget
  cases e
  have HG := hide hget
  clear fl ts gr hget
  go_wp2_with fail
  go_loop [203] (fun i => ∃ k : Nat, k ≤ 5 ∧ i = .int .i64 k) (fun i => 5 - (intOf i).toNat)
  case atStart => exact ⟨0, by omega, rfl⟩
  case round =>
    obtain ⟨k, hk, rfl⟩ := hrel
    by_cases hlt : k < 5
    · have hc := (unhide HT).ll.get hgs hlt
      have hw : IntKind.i32.wrap (k : Int) = (k : Int) := by rw [IntKind.wrap_i32]; omega
      have hw2 : IntKind.i32.wrap (100 + (k : Int)) = 100 + (k : Int) := by rw [IntKind.wrap_i32]; omega
      have hfl := unhide HF k hlt
      have hp := getP_mem (gs := gs) (j := k) (by omega)
      obtain ⟨q, cq, hq1, hq2⟩ := unhide HG k hlt
      obtain ⟨gk, hgk⟩ : ∃ g, (gs.getD k (0, 0)).1 = g := ⟨_, rfl⟩
      obtain ⟨ck, hck⟩ : ∃ c, (gs.getD k (0, 0)).2 = c := ⟨_, rfl⟩
      rw [hgk, hck] at hc
      rw [hgk] at hfl
      have HFL := hide hfl
      clear hgk hck hp hfl
      go_wp2_with fail
      go_loop [210] (fun i => ∃ j : Nat, j ≤ m ∧ i = .int .i64 j) (fun i => m - (intOf i).toNat)
      case atStart => exact ⟨0, Nat.zero_le _, rfl⟩
      case round =>
        obtain ⟨j, hj, rfl⟩ := hrel
        by_cases hlt2 : j < m
        · have hcj := unhide HFL j hlt2
          go_wp2_with fail
          go_round
          case rel => exact ⟨j + 1, by omega, by go_num⟩
          case measure => simp [intOf]; omega
        · go_wp2_with fail
          refine ⟨⟨k + 1, by omega, by go_num⟩, ?_⟩
          simp [intOf]; omega
    · have hcr := (unhide HT).cr.cell
      have hfr := (unhide HT).cr.frozen
      go_wp2_with fail
      exact unhide HK _ _ _ _ _ _ _ _ _ _ _ _ _ _ _ _ _ _ _ _ _ _ _ _ _ _ _ _ _ _ _ _ _ _ _ _ _ _ _ _ _ _ _ _ _ _ _ _ _ _ _ _ _ _ _ _ _ _ _ _ _ _ _ _ _ _ _ _ _ _ _ _ _ _ _ _ _ _ _ _ _ _ _ _ _ _ _ _ _ _ _ _ _ _ _ _ _ _ _ _ _ _ _ _ _ _ _ _ _ _ _ _ _ _ _ _ _ _ _ _ _ _ _ _ _ _ _ _ _ _ _ _ _ _ _ _ _ _ _ _ _ _ _ _ _ _ _ _ _ _ _ _ _ _ _ _ _ _ _ _ _ _ _ _ _ _ _ _ _ _ _ _ _ _ _ _ _ _ _ _ _ _ _ _ _ _ _ _ _ _ _ _ _ _ _ _ _ _ _ _ _ _ _ _ _ _ _ _ _ _ _ _ _ _ _ _ _ _ _ _ _ _ _ _ _ _ _ _ _ _ _ _ _ 

theorem keI {w W : World} {D : Nat} (tmps : Array Value) (h2 : tmps.getD 2 undef = .pointer (some ⟨w.heap.size, 0, none⟩)) (cr : Boxed W w.heap.size 4 (.bool false)) (dk : W.heap[D]? = some (.deferred (some []))) (hb : Below w.heap.size w W) (hD : w.heap.size ≤ D) :
    bodyPostM Fence.wide 3 Tryd.prog Tryd.f3 (fun e w' => e = .returned (.bool true) ∧ Below w.heap.size w w') .ret { tmps := tmps, defers := [{ target := .collected D, args := #[] }] } (W.setCell ⟨w.heap.size, 0, none⟩ (.bool true)) := by
  have hne : D ≠ w.heap.size := fun e => by
    rw [e, show W.heap[w.heap.size]? = _ from cr] at dk
    cases dk
  have dk' := (grown_set W w.heap.size 0 (.bool true)).block D (heap_lt dk) (fun e => hne (Option.some.inj e)) |>.trans dk
  have cb : Boxed (W.setCell ⟨w.heap.size, 0, none⟩ (.bool true)) w.heap.size 4 (.bool true) := cr.set _
  have hbs : Below w.heap.size w (W.setCell ⟨w.heap.size, 0, none⟩ (.bool true)) := hb.setCell (p := ⟨w.heap.size, 0, none⟩) (Nat.le_refl _) _
  have fin : ∀ o, (results Tryd.f3 tmps).run Tryd.prog ((W.setCell ⟨w.heap.size, 0, none⟩ (.bool true)).putObj D o) = .ok (.bool true) ((W.setCell ⟨w.heap.size, 0, none⟩ (.bool true)).putObj D o) := fun o => by
    have hc : ((W.setCell ⟨w.heap.size, 0, none⟩ (.bool true)).putObj D o).cell? ⟨w.heap.size, 0, none⟩ = some (.bool true) := (World.cell?_of_block (a := ⟨w.heap.size, 0, none⟩) (World.putObj_heap_other (fun e => hne e.symm))).trans cb.cell
    have h2' : tmps[2]?.getD undef = .pointer (some ⟨w.heap.size, 0, none⟩) := by simpa using h2
    simp [results, Tryd.results3, go_sem, h2', hc]
  refine ⟨by simp, .inl ⟨_, _, rfl, run_takeDeferred dk', ?_⟩⟩
  exact ⟨_, fin _, rfl, below_put hbs hD⟩

end Go.Proofs.YtbkageelholpeaaDoor
