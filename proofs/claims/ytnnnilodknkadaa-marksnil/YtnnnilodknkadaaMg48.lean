/- Layer 15: MarksNil's walk (written by wip/tools/mkm.py). -/
import Derived.Test.YtnnnilodknkadaaMg47
import Derived.Test.YtnnnilodknkadaaMg27

namespace Go.Proofs.Ytnnnilodknkadaa
open Go.ChangeShapes Go.WideShapes Go.ChangeAt Go.RowKit
attribute [local go_sem] Oper.semAt_some

theorem Cls.blw {W W' : World} {B : Nat} {t : TypeId} {cs : Array Value} (h : Cls W B t cs) (hb : Below W.heap.size W W') : Cls W' B t cs := h.below hb h.lt
set_option maxRecDepth 100000 in
set_option maxHeartbeats 4000000 in
theorem MarksNil_any (m : Mk) (a : Option Addr) (c : Nat) (d : List Dop) (p0 p1 : Int) (w : World) (ho : IsO w a d) (hz : d = [] ∨ ∃ q, a = some q) (hb : d.length * 32 ≤ 140737488355328) (_ht : ∀ o ∈ d, TbD o ∧ o.t.length ≤ 140737488355328) :
    Calls Try.prog 7 #[mkV m, .slice a d.length c, .agg #[.int .i64 p0, .int .i64 p1]] w fun y w' => y = .returned (.bool true) ∧ Below w.heap.size w w' := by
  obtain ⟨xn, xp, xg⟩ := m
  have HSet := hide fun (Y : World) (_ : Below w.heap.size w Y) => MSetN_at ⟨xn, xp, xg⟩ Y
  unfold mkV at HSet ⊢
  dsimp only at HSet ⊢
  have b1 := (Below.refl w.heap.size w).alloc (Nat.le_refl _) (.cells #[.string xn, .int .i64 xp, .int .i64 xg] 34)
  have HX0 := hide (b1.alloc b1.size (.cells #[.int .i64 p0, .int .i64 p1] 43))
  have HK := hide ((Cls.new w 34 #[.string xn, .int .i64 xp, .int .i64 xg]).alloc (.cells #[.int .i64 p0, .int .i64 p1] 43))
  have k2 := Cls.new (w.alloc (.cells #[.string xn, .int .i64 xp, .int .i64 xg] 34)) 43 #[.int .i64 p0, .int .i64 p1]
  rw [World.size_alloc] at k2
  have HS := hide k2
  have HAw := hide (awake15_at ((w.alloc (.cells #[.string xn, .int .i64 xp, .int .i64 xg] 34)).alloc (.cells #[.int .i64 p0, .int .i64 p1] 43)))
  have HCP := hide fun (Y : World) (hY : Below w.heap.size w Y) => copy_op Y a c d 36 (ho.below hY (Nat.le_refl _)) hz hb
  have HDr := hide fun (Y : World) (_ : Below w.heap.size w Y) => MDropN_at xn Y
  have HBe := hide fun (Y : World) (_ : Below w.heap.size w Y) (v : Value) => MBehN_at v Y
  have HGe := hide fun (Y : World) (_ : Below w.heap.size w Y) => MGetN_at xn Y
  have HLe := hide fun (Y : World) (_ : Below w.heap.size w Y) => MLenN_at Y
  have HLi := hide fun (Y : World) (_ : Below w.heap.size w Y) => MListN_at Y
  have HBt := hide fun (Y : World) (_ : Below w.heap.size w Y) => MBetweenN_at p0 p1 Y
  clear ho hz hb b1 k2
  go_enter Try.func7, Try.ntmps7
  go_wp2_with fail
  refine (unhide HAw).mono ?_
  rintro y w1 ⟨rfl, x1⟩
  dsimp only
  have HX1 := hide ((unhide HX0).trans (x1.mono (unhide HX0).size))
  have HK_1 := hide ((unhide HK).blw x1)
  have HS_1 := hide ((unhide HS).blw x1)
  clear HAw HX0 HK HS x1
  have d0 := (unhide HK_1).cell 0
  have d1 := (unhide HK_1).cell 1
  have d2 := (unhide HK_1).cell 2
  simp only [List.getElem?_toArray, List.getElem?_cons_zero, List.getElem?_cons_succ] at d0 d1 d2
  have HC2 := hide (unhide HSet w1 (unhide HX1))
  go_wp2_with fail
  refine (unhide HC2).mono ?_
  rintro y w2 ⟨rfl, x2⟩
  dsimp only
  have HX2 := hide ((unhide HX1).trans (x2.mono (unhide HX1).size))
  have HK_2 := hide ((unhide HK_1).blw x2)
  have HS_2 := hide ((unhide HS_1).blw x2)
  clear HC2 HX1 x2 HK_1 HS_1 HSet d0 d1 d2
  have d0 := (unhide HK_2).cell 0
  simp only [List.getElem?_toArray, List.getElem?_cons_zero] at d0
  have HC3 := hide (unhide HDr w2 (unhide HX2))
  go_wp2_with fail
  refine (unhide HC3).mono ?_
  rintro y w3 ⟨rfl, x3⟩
  dsimp only
  have HX3 := hide ((unhide HX2).trans (x3.mono (unhide HX2).size))
  have HK_3 := hide ((unhide HK_2).blw x3)
  have HS_3 := hide ((unhide HS_2).blw x3)
  clear HC3 HX2 x3 HK_2 HS_2 HDr d0
  obtain ⟨v4, w4, r4, _, x4⟩ := unhide HCP w3 (unhide HX3)
  have R4 := hide r4
  have HX4 := hide ((unhide HX3).trans (x4.mono (unhide HX3).size))
  have HK_4 := hide ((unhide HK_3).blw x4)
  have HS_4 := hide ((unhide HS_3).blw x4)
  have HC5 := hide (unhide HBe w4 (unhide HX4) v4)
  clear r4 x4 HCP HBe HX3 HK_3 HS_3
  go_wp2_with (at_builtin; refine wpList_append_known rfl _ _ 36 36 rfl _ _ rfl rfl _ _ (unhide R4) ?_; clear R4)
  refine (unhide HC5).mono ?_
  rintro y w5 ⟨rfl, x5⟩
  dsimp only
  have HX5 := hide ((unhide HX4).trans (x5.mono (unhide HX4).size))
  have HK_5 := hide ((unhide HK_4).blw x5)
  have HS_5 := hide ((unhide HS_4).blw x5)
  clear HC5 HX4 x5 HK_4 HS_4
  have d0 := (unhide HK_5).cell 0
  simp only [List.getElem?_toArray, List.getElem?_cons_zero] at d0
  have HC6 := hide (unhide HGe w5 (unhide HX5))
  go_wp2_with fail
  refine (unhide HC6).mono ?_
  rintro y w6 ⟨rfl, x6⟩
  dsimp only
  have HX6 := hide ((unhide HX5).trans (x6.mono (unhide HX5).size))
  have HK_6 := hide ((unhide HK_5).blw x6)
  have HS_6 := hide ((unhide HS_5).blw x6)
  clear HC6 HX5 x6 HK_5 HS_5 HGe d0
  have b7 := (Below.refl w6.heap.size w6).alloc (Nat.le_refl _) (.cells #[.string ⟨#[]⟩, .int .i64 0, .int .i64 0] 34)
  have k7 := Cls.new w6 34 #[.string ⟨#[]⟩, .int .i64 0, .int .i64 0]
  have e0 := k7.cell 0
  have e1 := k7.cell 1
  have e2 := k7.cell 2
  simp only [List.getElem?_toArray, List.getElem?_cons_zero, List.getElem?_cons_succ] at e0 e1 e2
  have HX7 := hide ((unhide HX6).trans (b7.mono (unhide HX6).size))
  have HS_7 := hide ((unhide HS_6).blw b7)
  clear b7 k7 HX6 HK_6 HS_6
  have HC8 := hide (unhide HLe _ (unhide HX7))
  go_wp2_with fail
  refine (unhide HC8).mono ?_
  rintro y w8 ⟨rfl, x8⟩
  dsimp only
  have HX8 := hide ((unhide HX7).trans (x8.mono (unhide HX7).size))
  have HS_8 := hide ((unhide HS_7).blw x8)
  clear HC8 HX7 HS_7 x8 e0 e1 e2 HLe
  have HC9 := hide (unhide HLi w8 (unhide HX8))
  go_wp2_with fail
  refine (unhide HC9).mono ?_
  rintro y w9 ⟨rfl, x9⟩
  dsimp only
  have HX9 := hide ((unhide HX8).trans (x9.mono (unhide HX8).size))
  have k9 := (unhide HS_8).blw x9
  have s0 := k9.cell 0
  have s1 := k9.cell 1
  simp only [List.getElem?_toArray, List.getElem?_cons_zero, List.getElem?_cons_succ] at s0 s1
  clear HC9 HX8 HS_8 x9 k9 HLi
  have HC10 := hide (unhide HBt w9 (unhide HX9))
  go_wp2_with fail
  refine (unhide HC10).mono ?_
  rintro y w10 ⟨rfl, x10⟩
  dsimp only
  have HX10 := hide ((unhide HX9).trans (x10.mono (unhide HX9).size))
  clear HC10 HX9 x10 s0 s1 HBt
  go_wp2_with fail
  refine bodyPost_ret (results_tmp rfl _ _ _) rfl ⟨rfl, unhide HX10⟩
end Go.Proofs.Ytnnnilodknkadaa
