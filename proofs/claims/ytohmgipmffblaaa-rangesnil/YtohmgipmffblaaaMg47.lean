/- Layer 16: RangesNil's walk. -/
import Derived.Test.YtohmgipmffblaaaMg46

namespace Go.Proofs.Ytohmgipmffblaaa
open Go.ChangeShapes Go.WideShapes Go.ChangeAt Go.RowKit
attribute [local go_sem] Oper.semAt_some

set_option maxRecDepth 100000 in
set_option maxHeartbeats 4000000 in
theorem RangesNil_any (m : Rg) (a : Option Addr) (c : Nat) (d : List Dop) (w : World) (ho : IsO w a d) (hz : d = [] ∨ ∃ q, a = some q) (hb : d.length * 32 ≤ 140737488355328) (_ht : ∀ o ∈ d, TbD o ∧ o.t.length ≤ 140737488355328) :
    Calls Try.prog 8 #[rgV m, .slice a d.length c] w fun y w' => y = .returned (.bool true) ∧ Below w.heap.size w w' := by
  obtain ⟨xn, xl, xh, xs, xe⟩ := m
  have HSet := hide fun (Y : World) => GSetN_at ⟨xn, xl, xh, xs, xe⟩ Y
  unfold rgV at HSet ⊢
  dsimp only at HSet ⊢
  have HCP := hide fun (Y : World) (hY : Below w.heap.size w Y) => RCopy_at a c d Y (ho.below hY (Nat.le_refl _)) hz hb
  have HX0 := hide ((Below.refl w.heap.size w).alloc (Nat.le_refl _) (.cells #[.string xn, .int .i64 xl, .int .i64 xh, .int .i64 xs, .int .i64 xe] 37))
  have HK0 := hide (Cls.new w 37 #[.string xn, .int .i64 xl, .int .i64 xh, .int .i64 xs, .int .i64 xe])
  have HAw := hide (awake16_at (w.alloc (.cells #[.string xn, .int .i64 xl, .int .i64 xh, .int .i64 xs, .int .i64 xe] 37)))
  clear ho hz hb
  go_enter Try.func8, Try.ntmps8
  have HC1 := hide (unhide HAw)
  go_wp2_with fail
  refine (unhide HC1).mono ?_
  rintro y w1 ⟨rfl, x1⟩
  dsimp only
  have HX1 := hide ((unhide HX0).trans (x1.mono (unhide HX0).size))
  have HK1 := hide ((unhide HK0).below x1 (unhide HK0).lt)
  clear HC1 HX0 HK0 x1 HAw
  have HC2 := hide (unhide HSet w1)
  have d0 := (unhide HK1).cell 0
  have d1 := (unhide HK1).cell 1
  have d2 := (unhide HK1).cell 2
  have d3 := (unhide HK1).cell 3
  have d4 := (unhide HK1).cell 4
  simp only [List.getElem?_toArray, List.getElem?_cons_zero, List.getElem?_cons_succ] at d0 d1 d2 d3 d4
  go_wp2_with fail
  refine (unhide HC2).mono ?_
  rintro y w2 ⟨rfl, x2⟩
  dsimp only
  have HX2 := hide ((unhide HX1).trans (x2.mono (unhide HX1).size))
  have HK2 := hide ((unhide HK1).below x2 (unhide HK1).lt)
  clear HC2 HX1 HK1 x2 d0 d1 d2 d3 d4 HSet
  have HC3 := hide (GDropN_at xn w2)
  have d0 := (unhide HK2).cell 0
  simp only [List.getElem?_toArray, List.getElem?_cons_zero] at d0
  go_wp2_with fail
  refine (unhide HC3).mono ?_
  rintro y w3 ⟨rfl, x3⟩
  dsimp only
  have HX3 := hide ((unhide HX2).trans (x3.mono (unhide HX2).size))
  have HK3 := hide ((unhide HK2).below x3 (unhide HK2).lt)
  clear HC3 HX2 HK2 x3 d0
  have HC4 := hide (unhide HCP w3 (unhide HX3))
  go_wp2_with fail
  refine (unhide HC4).mono ?_
  rintro y w4 ⟨v4, rfl, _, x4⟩
  dsimp only
  have HX4 := hide ((unhide HX3).trans (x4.mono (unhide HX3).size))
  have HK4 := hide ((unhide HK3).below x4 (unhide HK3).lt)
  clear HC4 HX3 HK3 x4 HCP
  have HC5 := hide (GBehN_at v4 w4)
  go_wp2_with fail
  refine (unhide HC5).mono ?_
  rintro y w5 ⟨rfl, x5⟩
  dsimp only
  have HX5 := hide ((unhide HX4).trans (x5.mono (unhide HX4).size))
  have HK5 := hide ((unhide HK4).below x5 (unhide HK4).lt)
  clear HC5 HX4 HK4 x5 
  have HC6 := hide (GGetN_at xn w5)
  have d0 := (unhide HK5).cell 0
  simp only [List.getElem?_toArray, List.getElem?_cons_zero] at d0
  go_wp2_with fail
  refine (unhide HC6).mono ?_
  rintro y w6 ⟨rfl, x6⟩
  dsimp only
  have HX6 := hide ((unhide HX5).trans (x6.mono (unhide HX5).size))
  have HK6 := hide ((unhide HK5).below x6 (unhide HK5).lt)
  clear HC6 HX5 HK5 x6 d0 
  have b7 := (Below.refl w6.heap.size w6).alloc (Nat.le_refl _) (.cells #[.string ⟨#[]⟩, .int .i64 0, .int .i64 0, .int .i64 0, .int .i64 0] 37)
  have HX7 := hide ((unhide HX6).trans (b7.mono (unhide HX6).size))
  have HK7 := hide ((unhide HK6).below b7 (unhide HK6).lt)
  clear HX6 HK6 b7
  have HC8 := hide (GLenN_at (w6.alloc (.cells #[.string ⟨#[]⟩, .int .i64 0, .int .i64 0, .int .i64 0, .int .i64 0] 37)))
  go_wp2_with fail
  refine (unhide HC8).mono ?_
  rintro y w8 ⟨rfl, x8⟩
  dsimp only
  have HX8 := hide ((unhide HX7).trans (x8.mono (unhide HX7).size))
  have HK8 := hide ((unhide HK7).below x8 (unhide HK7).lt)
  clear HC8 HX7 HK7 x8
  have HC9 := hide (GListN_at w8)
  go_wp2_with fail
  refine (unhide HC9).mono ?_
  rintro y w9 ⟨rfl, x9⟩
  dsimp only
  have HX9 := hide ((unhide HX8).trans (x9.mono (unhide HX8).size))
  have HK9 := hide ((unhide HK8).below x9 (unhide HK8).lt)
  clear HC9 HX8 HK8 x9  
  have HC10 := hide (GOverN_at xl xh w9)
  have d1 := (unhide HK9).cell 1
  have d2 := (unhide HK9).cell 2
  simp only [List.getElem?_toArray, List.getElem?_cons_zero, List.getElem?_cons_succ] at d1 d2
  go_wp2_with fail
  refine (unhide HC10).mono ?_
  rintro y w10 ⟨rfl, x10⟩
  dsimp only
  have HX10 := hide ((unhide HX9).trans (x10.mono (unhide HX9).size))
  have HK10 := hide ((unhide HK9).below x10 (unhide HK9).lt)
  clear HC10 HX9 HK9 x10 d1 d2 
  have HC11 := hide (GCovN_at w10)
  go_wp2_with fail
  refine (unhide HC11).mono ?_
  rintro y w11 ⟨rfl, x11⟩
  dsimp only
  have HX11 := hide ((unhide HX10).trans (x11.mono (unhide HX10).size))
  have HK11 := hide ((unhide HK10).below x11 (unhide HK10).lt)
  clear HC11 HX10 HK10 x11  
  go_wp2_with fail
  refine bodyPost_ret (results_tmp rfl _ _ _) rfl ⟨rfl, unhide HX11⟩
end Go.Proofs.Ytohmgipmffblaaa
