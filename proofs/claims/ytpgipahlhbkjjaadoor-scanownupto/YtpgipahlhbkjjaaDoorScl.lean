/- scan.take: from the labels last and broken. -/
import Derived.Test.YtpgipahlhbkjjaaDoorSck
import Derived.WalkMore
namespace Go.Proofs.YtpgipahlhbkjjaaDoor
open Go.ChangeShapes Go.WideShapes Go.ChangeAt Go.RowKit

set_option maxHeartbeats 2000000 in
theorem pass_last (g : Nat) (fed : Int) (w0 : World) (T : List Tri) (H : List Int) (m : Nat) (a : Act) (w : World) (hJ : J g fed w0 T H 3 m a w) :
    ∃ rest, findLabel (scopeOf Tryd.f18) 3 = some rest ∧ rest.wp Tryd.prog (jumps (JN g fed w0 T H m) (bodyPost Tryd.prog Tryd.f18 (TakeR g fed w0 T H))) a w := by
  obtain ⟨h, b, ts, a0, cap, v, ⟨u2, u3, u6, u7, u8, u9, u10, u11, u12, u13, u14, u15, u16, u17, u18, u19, u20, u21, u22, u23, u24, u25, u26, u27, u28, u29, u30, u31, u32, u33, u34, u35, u36, u37, u38, u39, u40, u41, u42, u43, u44, u45, u46, u47, u48, u49, u50, u51, u52, u53, u54, u55, u56, u57, u58, u59, u60, u61, u62, u63, u64, u65, u66, u67, u68, u69, u70, u71, u72, u73, u74, u75, u76, u77, u78, u79, u80, u81, u82, rfl⟩, rfl, HM, hA, HQ⟩ := hJ
  obtain ⟨x, r, rfl, hw, he⟩ := hA
  obtain ⟨gb, off, rfl, hc, hx, hcap, hlen, hgb, hgn⟩ := (unhide HM).head
  simp only [List.length_cons]
  have HE := hide he
  have HW := hide hw
  clear he hw
  refine ⟨_, rfl, ?_⟩
  go_wp2_with fail
  refine (whole_at g h fed x w (unhide HM).sca hx (unhide HM).tab (unhide HW)).mono ?_
  unfold stepV
  rintro e w1 ⟨rfl, s1, f1⟩
  have hz0 := (unhide HM).scf.size
  have hlen2 := (unhide HM).len
  obtain ⟨g3, c3, w3, r3, o3, x3⟩ := ((unhide HM).row.scf f1 (unhide HM).low).pushw (value (h ++ [x])) h.length (by simp only [List.length_cons] at hlen2; omega) (Nat.le_trans hz0 f1.size)
  have R3 := hide r3
  clear r3
  have hM3 := (unhide HM).next (s1.below x3 (unhide HM).low) ((Scf.chain2 (Nat.le_refl _) (unhide HM).scf f1).trans (.of x3)) o3 (by simp)
  have HM3 := hide hM3
  clear hM3 x3 o3 s1 f1 hlen2
  have HQ3 : Hid ((ts ++ [(value (h ++ [x]), h.length + 1, true)]) ++ (scanS [] r).1 = T ∧ (scanS [] r).2 = H) := by
    obtain ⟨q1, q2⟩ := unhide HQ
    simp only [scanS, unhide HE] at q1 q2
    exact hide ⟨by rw [← q1]; simp, q2⟩
  clear HQ
  dsimp only
  go_wp2_with (at_builtin; refine wpList_append_known rfl _ _ 30 30 rfl _ _ rfl rfl _ _ (unhide R3) ?_)
  all_goals (
    go_step3
    first
      | rw [if_pos ‹cap = 1›, show cap - 1 = 0 by omega] at HM3
      | rw [if_neg ‹¬ cap = 1›] at HM3
    exact ⟨_, ⟨[], r, _, _, _, _, ⟨_, _, _, _, _, _, _, _, _, _, _, _, _, _, _, _, _, _, _, _, _, _, _, _, _, _, _, _, _, _, _, _, _, _, _, _, _, _, _, _, _, _, _, _, _, _, _, _, _, _, _, _, _, _, _, _, _, _, _, _, _, _, _, _, _, _, _, _, _, _, _, _, _, _, _, _, _, _, _, rfl⟩, rfl, HM3, rfl, HQ3⟩, by simp only [rank]; omega⟩)
set_option maxHeartbeats 2000000 in
theorem pass_broken (g : Nat) (fed : Int) (w0 : World) (T : List Tri) (H : List Int) (m : Nat) (a : Act) (w : World) (hJ : J g fed w0 T H 5 m a w) :
    ∃ rest, findLabel (scopeOf Tryd.f18) 5 = some rest ∧ rest.wp Tryd.prog (jumps (JN g fed w0 T H m) (bodyPost Tryd.prog Tryd.f18 (TakeR g fed w0 T H))) a w := by
  obtain ⟨h, b, ts, a0, cap, v, ⟨u2, u3, u6, u7, u8, u9, u10, u11, u12, u13, u14, u15, u16, u17, u18, u19, u20, u21, u22, u23, u24, u25, u26, u27, u28, u29, u30, u31, u32, u33, u34, u35, u36, u37, u38, u39, u40, u41, u42, u43, u44, u45, u46, u47, u48, u49, u50, u51, u52, u53, u54, u55, u56, u57, u58, u59, u60, u61, u62, u63, u64, u65, u66, u67, u68, u69, u70, u71, u72, u73, u74, u75, u76, u77, u78, u79, u80, u81, u82, rfl⟩, rfl, HM, hA, HQ⟩ := hJ
  obtain ⟨hp, x, r, rfl, hf⟩ := hA
  have HP := hide hp
  have hq := scanS_broken (r := r) hp hf
  have HQ3 : Hid ((ts ++ List.replicate h.length badT) ++ (scanS [] (x :: r)).1 = T ∧ (scanS [] (x :: r)).2 = H) := by
    obtain ⟨q1, q2⟩ := unhide HQ
    rw [hq] at q1 q2
    exact hide ⟨by rw [← q1]; simp, q2⟩
  clear HQ hq hp hf
  refine ⟨_, rfl, ?_⟩
  go_wp2_with fail
  refine (breakOff_at g w0.heap.size h fed v ts w (unhide HM).sca (unhide HM).row (unhide HM).scf.size (unhide HM).low (by have := (unhide HM).len; omega)).mono ?_
  rintro e w1 ⟨v1, rfl, o1, s1, f1⟩
  have HM3 := hide ((unhide HM).stay s1 ((unhide HM).scf.trans f1) o1 (by simp))
  clear o1 s1 f1
  dsimp only
  go_wp2_with fail
  go_step3
  exact ⟨_, ⟨[], x :: r, _, _, _, _, ⟨_, _, _, _, _, _, _, _, _, _, _, _, _, _, _, _, _, _, _, _, _, _, _, _, _, _, _, _, _, _, _, _, _, _, _, _, _, _, _, _, _, _, _, _, _, _, _, _, _, _, _, _, _, _, _, _, _, _, _, _, _, _, _, _, _, _, _, _, _, _, _, _, _, _, _, _, _, _, _, rfl⟩, rfl, HM3, rfl, HQ3⟩, by simp only [rank]; omega⟩
end Go.Proofs.YtpgipahlhbkjjaaDoor
