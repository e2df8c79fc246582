/- scan.take: from the label second. -/
import Derived.Test.YtpgipahlhbkjjaaDoorScl
import Derived.WalkMore
namespace Go.Proofs.YtpgipahlhbkjjaaDoor
open Go.ChangeShapes Go.WideShapes Go.ChangeAt Go.RowKit

set_option maxHeartbeats 2000000 in
theorem pass_second (g : Nat) (fed : Int) (w0 : World) (T : List Tri) (H : List Int) (m : Nat) (a : Act) (w : World) (hJ : J g fed w0 T H 1 m a w) :
    ∃ rest, findLabel (scopeOf Tryd.f18) 1 = some rest ∧ rest.wp Tryd.prog (jumps (JN g fed w0 T H m) (bodyPost Tryd.prog Tryd.f18 (TakeR g fed w0 T H))) a w := by
  obtain ⟨h, b, ts, a0, cap, v, ⟨u2, u3, u6, u7, u8, u9, u10, u11, u12, u13, u14, u15, u16, u17, u18, u19, u20, u21, u22, u23, u24, u25, u26, u27, u28, u29, u30, u31, u32, u33, u34, u35, u36, u37, u38, u39, u40, u41, u42, u43, u44, u45, u46, u47, u48, u49, u50, u51, u52, u53, u54, u55, u56, u57, u58, u59, u60, u61, u62, u63, u64, u65, u66, u67, u68, u69, u70, u71, u72, u73, u74, u75, u76, u77, u78, u79, u80, u81, u82, rfl⟩, rfl, HM, hA, HQ⟩ := hJ
  obtain ⟨hp, h1⟩ := hA
  cases b with
  | nil =>
    refine ⟨_, rfl, ?_⟩
    go_wp2_with fail
    show bodyPost _ _ _ Exit.ret _ _
    go_ret
    exact (unhide HM).ret (unhide HQ)
  | cons x r =>
    obtain ⟨a, rfl⟩ : ∃ a, h = [a] := by
      match h, h1 with
      | [a], _ => exact ⟨a, rfl⟩
    obtain ⟨gb, off, rfl, hc, hx, hcap, hlen, hgb, hgn⟩ := (unhide HM).head
    obtain ⟨hca, ha0, ha1⟩ := (unhide HM).sca.2.2.1.head
    have HP := hide hp
    clear hp
    simp only [List.length_cons]
    refine ⟨_, rfl, ?_⟩
    go_wp2_with fail
    cases hs : sec a x with
    | true =>
      go_quiet ((go_at_call 21; exact Calls.quiet_of_same (Second_at _ _ _ ha0 ha1 hx.1 hx.2 (Tab.drewN (unhide HM).tab _) hs)))
      have HA : Hid (AtL 4 [a] (x :: r)) := hide ⟨unhide HP, x, r, rfl, hs⟩
      rename_i nq
      have HMq := hide ((unhide HM).drew nq)
      go_wp2_with fail
      go_step3
      exact ⟨_, ⟨[a], x :: r, _, _, _, _, ⟨_, _, _, _, _, _, _, _, _, _, _, _, _, _, _, _, _, _, _, _, _, _, _, _, _, _, _, _, _, _, _, _, _, _, _, _, _, _, _, _, _, _, _, _, _, _, _, _, _, _, _, _, _, _, _, _, _, _, _, _, _, _, _, _, _, _, _, _, _, _, _, _, _, _, _, _, _, _, _, rfl⟩, rfl, HMq, unhide HA, HQ⟩, by simp only [rank, List.length_cons]; omega⟩
    | false =>
      go_quiet ((go_at_call 21; exact Calls.quiet_of_same (Second_at _ _ _ ha0 ha1 hx.1 hx.2 (Tab.drewN (unhide HM).tab _) hs)))
      have HA : Hid (AtL 5 [a] (x :: r)) := hide ⟨unhide HP, x, r, rfl, hs⟩
      rename_i nq
      have HMq := hide ((unhide HM).drew nq)
      go_wp2_with fail
      go_step3
      exact ⟨_, ⟨[a], x :: r, _, _, _, _, ⟨_, _, _, _, _, _, _, _, _, _, _, _, _, _, _, _, _, _, _, _, _, _, _, _, _, _, _, _, _, _, _, _, _, _, _, _, _, _, _, _, _, _, _, _, _, _, _, _, _, _, _, _, _, _, _, _, _, _, _, _, _, _, _, _, _, _, _, _, _, _, _, _, _, _, _, _, _, _, _, rfl⟩, rfl, HMq, unhide HA, HQ⟩, by simp only [rank, List.length_cons]; omega⟩
end Go.Proofs.YtpgipahlhbkjjaaDoor
