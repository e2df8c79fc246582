/- Layer 15: marks sorted; Between, List. · Layer 15: a nil *Marks; the law's fixed facts. -/
import Derived.Test.YtfllomlighlejaaMo18
import Derived.Test.YtfllomlighlejaaMo34
import Derived.Test.YtfllomlighlejaaMo35
import Derived.Shelf.SlSortCmp.NoneTotal

section
namespace Go.Proofs.Ytfllomlighlejaa
open Go.ChangeShapes Go.WideShapes Go.ChangeAt Go.RowKit
attribute [local go_sem] Oper.semAt_some

open Go.Sort in
theorem swoM : SWO (ltOf cmpM) where
  irrefl x := by show decide (cmpM x x < 0) = false; rw [cmpM_neg]; exact ltM_irrefl x
  trans x y z h1 h2 := by
    change decide (cmpM x y < 0) = true at h1
    change decide (cmpM y z < 0) = true at h2
    show decide (cmpM x z < 0) = true
    rw [cmpM_neg] at *
    exact ltM_trans h1 h2
  ntrans x y z h1 h2 := by
    change decide (cmpM x y < 0) = false at h1
    change decide (cmpM y z < 0) = false at h2
    show decide (cmpM x z < 0) = false
    rw [cmpM_neg] at *
    exact ltM_ntrans h1 h2
theorem sorted_pw {d' : Array Mk} (h : Go.Sort.SortedIn (ltOf cmpM) 0 d'.size d') : d'.toList.Pairwise fun a b => ltM b a = false := by
  rw [List.pairwise_iff_getElem]
  intro i j hi hj hij
  have := h i j (Nat.zero_le _) hij (by simpa using hj)
  change decide (cmpM d'[j]! d'[i]! < 0) = false at this
  rw [cmpM_neg] at this
  have e1 : d'[j]! = d'.toList[j] := by rw [getElem!_pos d' j (by simpa using hj)]; simp
  have e2 : d'[i]! = d'.toList[i] := by rw [getElem!_pos d' i (by simpa using hi)]; simp
  rw [e1, e2] at this
  exact this
open Go.Sort in
set_option maxRecDepth 100000 in
theorem MSort_at (w : World) (B : Nat) (a : Option Addr) (c : Nat) (l : List Mk) (h : w.ownsRow B 42 3 (.slice a l.length c) l.length (mksV l)) (hl : l.length ≤ 1048576) (hB : B ≤ w.heap.size) :
    Calls Try.prog 27 #[.slice a l.length c, .func (.func 28) #[] #[]] w fun y w' => y = .returned (.tuple #[]) ∧ ∃ E : List Mk, E.Perm l ∧ E.Pairwise (fun a b => ltM b a = false) ∧ w'.ownsRow B 42 3 (.slice a l.length c) l.length (mksV E) ∧ Go.RowKit.Below B w w' := by
  have eg : ∀ args w, (callFunc 28 args).run Try.prog w = .ok (.enter 28 args) w := enters_of Try.func28 (by kernel_rfl) rfl
  by_cases h0 : l = []
  · subst h0
    have hcon := AnyF.slices_SortFunc_none Try.sortMk a c (.func (.func 28) #[] #[]) w
    change Calls Try.prog 27 _ _ _ at hcon
    refine hcon.mono fun y w' ⟨e, e2⟩ => ?_
    subst e2
    exact ⟨e, [], List.Perm.refl _, List.Pairwise.nil, h, Go.RowKit.Below.refl _ _⟩
  · obtain ⟨g, c', e, _, hlt⟩ := h.form (List.length_pos_iff.2 h0)
    cases e
    have hH := own_holdsK mkL 3 mkL_len (by decide) (l := l) h
    have hcmp : CmpLays Try.prog 28 #[] mkL 3 cmpM g 0 l.toArray.size w := fun _ _ _ _ x y => MCmp_at x y _
    have hcon := AnyQ.slices_SortFunc Try.sortMk 3 Try.isAgg42 Try.sizeOf42 mkL mkL_len (fun x v hv => by simp [mkL] at hv; rcases hv with rfl | rfl | rfl <;> rfl) cmpM swoM 28 #[] g 0 c l.toArray w eg hcmp hH hlt (by simp; omega)
    change Calls Try.prog 27 _ _ _ at hcon
    rw [List.size_toArray] at hcon
    refine hcon.mono fun y w' ⟨e, d', n, os, hp, hs, e2⟩ => ⟨e, d'.toList, ?_, ?_, ?_⟩
    · have := hp.2.2
      rw [Array.extract_eq_self_of_le (by rw [hp.1]; simp), Array.extract_eq_self_of_le (by simp)] at this
      simpa using this
    · have hsz : d'.size = l.length := by rw [hp.1]; simp
      rw [← hsz] at hs
      exact sorted_pw hs
    · subst e2
      have hsz : d'.toList.length = l.length := by rw [Array.length_toList, hp.1]; simp
      have hso := sort_own mkL 3 mkL_len (by decide) (l := l) h d'.toList hsz n os
      exact ⟨hso.1, hso.2.2 B (rowD_block h (G := g) rfl).1 hB⟩
def inM (lo hi : Int) (m : Mk) : Bool := decide (lo ≤ m.p) && decide (m.p ≤ hi)
/-- what Between's loop keeps: the iterator (I came out) and the list (of S, what lies between) -/
structure MtJ (X wx : World) (ri bm : Nat) (lo hi : Int) (L I S : List Mk) (v7 : Value) : Prop where
  it : ItM wx ri bm L I
  go : wx.ownsRow X.heap.size 42 3 v7 (S.filter (inM lo hi)).length (mksV (S.filter (inM lo hi)))
  dd : Below X.heap.size X wx
  nn : X.heap.size ≤ ri
theorem MtJ.on {X wx wy : World} {ri bm : Nat} {lo hi : Int} {L I S : List Mk} {v7 : Value} (h : MtJ X wx ri bm lo hi L I S v7) (hb : Below wx.heap.size wx wy) : MtJ X wy ri bm lo hi L I S v7 :=
  ⟨h.it.below hb (Nat.le_refl _), rowD_below h.go hb (Nat.le_refl _), h.dd.trans (hb.mono h.dd.size), h.nn⟩
theorem MtJ.next {X wx : World} {ri bm : Nat} {lo hi : Int} {L S : List Mk} {v7 : Value} (h : MtJ X wx ri bm lo hi L S S v7) (ty : TypeId) :
    (S.Perm L ∧ (Instr.next (.pointer (some ⟨ri, 0, none⟩)) false ty).run Try.prog wx = .ok (.tuple #[.bool false]) wx) ∨
    ∃ m T X', (S ++ m :: T).Perm L ∧ (Instr.next (.pointer (some ⟨ri, 0, none⟩)) false ty).run Try.prog wx = .ok (.tuple #[.bool true, .string m.n, mkV m]) X' ∧ (Instr.entry (.pointer (some ⟨ri, 0, none⟩))).run Try.prog X' = .ok (.tuple #[.string m.n, mkV m]) X' ∧ MtJ X X' ri bm lo hi L (S ++ [m]) S v7 ∧ leftM X' bm ri < leftM wx bm ri := by
  rcases h.it.next (P := Try.prog) ty with h1 | ⟨m, T, X', p, r, e, i, hs, hk, hl, hb⟩
  · exact .inl h1
  · refine .inr ⟨m, T, X', p, r, e, ⟨i, rowD_on h.go fun G hG => hk G fun eq => ?_, h.dd.trans (hb _ h.nn), h.nn⟩, hl⟩
    obtain ⟨_, c, hc⟩ := rowD_block h.go hG
    obtain ⟨_, _, _, _, _, _, a, _⟩ := h.it.c
    rw [eq, a] at hc; cases hc
theorem MtJ.pass {X wx : World} {ri bm : Nat} {lo hi : Int} {L S : List Mk} {m : Mk} {v7 : Value} (h : MtJ X wx ri bm lo hi L (S ++ [m]) S v7) (hk : inM lo hi m = false) : MtJ X wx ri bm lo hi L (S ++ [m]) (S ++ [m]) v7 := by
  have e : (S ++ [m]).filter (inM lo hi) = S.filter (inM lo hi) := by simp [List.filter_append, hk]
  exact ⟨h.it, by rw [e]; exact h.go, h.dd, h.nn⟩
theorem MtJ.push {X wx : World} {ri bm : Nat} {lo hi : Int} {L S : List Mk} {m : Mk} {v7 : Value} (h : MtJ X wx ri bm lo hi L (S ++ [m]) S v7) (hb : bm < X.heap.size) (hk : inM lo hi m = true) (hl : (S.filter (inM lo hi)).length ≤ 1099511627776) :
    ∃ v' W', (Builtin.append_ #[27, 27] 27 #[v7, .slice (some ⟨wx.heap.size, 0, none⟩) 1 1]).run Try.prog (wx.alloc (.cells #[.string m.n, .int .i64 m.p, .int .i64 m.g] 42)) = .ok v' W' ∧ MtJ X W' ri bm lo hi L (S ++ [m]) (S ++ [m]) v' ∧ leftM W' bm ri = leftM wx bm ri := by
  obtain ⟨g, c, W', r, ho, hg, bb⟩ := push_mk wx X.heap.size (S.filter (inM lo hi)).length v7 (mksV (S.filter (inM lo hi))) m.n m.p m.g 27 h.go hl h.dd.size
  have hri := h.it.lt
  have e1 : W'.heap[ri]? = wx.heap[ri]? := hg.block ri hri.1 fun e => by
    obtain ⟨_, cur, hcur⟩ := rowD_block h.go e.symm
    obtain ⟨_, _, _, _, _, _, a, _⟩ := h.it.c
    rw [a] at hcur; cases hcur
  have e2 : W'.heap[bm]? = wx.heap[bm]? := bb.block bm hb
  have e : (S ++ [m]).filter (inM lo hi) = S.filter (inM lo hi) ++ [m] := by simp [List.filter_append, hk]
  refine ⟨_, W', r, ⟨h.it.same e1 e2, ?_, h.dd.trans bb, h.nn⟩, leftM_same e1 e2⟩
  rw [e, List.length_append, List.length_singleton, mksV_app, mksV_one]
  exact ho
set_option maxRecDepth 100000 in
set_option maxHeartbeats 4000000 in
theorem MBtw_at (g : Nat) (n : Int) (L : List Mk) (lo hi : Int) (X : World) (h : IsMs X g n L) (hL : L.length ≤ 1048576) :
    Calls Try.prog 14 #[.pointer (some ⟨g, 0, none⟩), .int .i64 lo, .int .i64 hi] X fun y X' => ∃ a c, ∃ E : List Mk, y = .returned (.slice a E.length c) ∧ E.Perm (L.filter (inM lo hi)) ∧ E.Pairwise (fun a b => ltM b a = false) ∧ X'.ownsRow X.heap.size 42 3 (.slice a E.length c) E.length (mksV E) ∧ Below X.heap.size X X' := by
  obtain ⟨r, kg, mg⟩ := h.c
  have hrX : r < X.heap.size := mg.lt
  have c1 := kg.cell 1
  simp only [List.getElem?_toArray, List.getElem?_cons_zero, List.getElem?_cons_succ] at c1
  obtain ⟨o, RR, it⟩ := ItM.start (P := Try.prog) X Try.underlying67 mg
  have hj : MtJ X (X.alloc o) X.heap.size r lo hi L [] [] (.slice none 0 0) := ⟨it, World.ownsRow_nil _ _ _ _, (Below.refl _ _).alloc (Nat.le_refl _) o, Nat.le_refl _⟩
  have HJ := hide hj
  have HL := hide hL
  clear h kg mg it hj hL
  go_enter Try.func14, Try.ntmps14
  go_wp2_with fail
  generalize hri : X.heap.size = ri at *
  go_loopw [7, 9] (fun v7 v9 wx => (∃ z, v9 = z) ∧ Hid (∃ S, MtJ X wx ri r lo hi L S S v7)) (fun _ _ wx => leftM wx r ri)
  case atStart => exact ⟨⟨_, rfl⟩, hide ⟨[], unhide HJ⟩⟩
  case round =>
    clear HJ
    obtain ⟨⟨z2, rfl⟩, HI⟩ := hrel
    obtain ⟨S, hJ⟩ := unhide HI
    rcases hJ.next 0 with ⟨hp, hr⟩ | ⟨m, T, X', hp, hr, he, hJ', hlt⟩
    · obtain ⟨ag, cg, hv7, _⟩ := rowD_form hJ.go
      subst hv7
      have hgl : (S.filter (inM lo hi)).length ≤ 1048576 := by
        have h1 := List.length_filter_le (inM lo hi) S
        have h2 := hp.length_eq
        have h3 := unhide HL
        omega
      have HC := hide (MSort_at wr X.heap.size ag cg (S.filter (inM lo hi)) hJ.go hgl hJ.dd.size)
      have HP := hide (hp.filter (inM lo hi))
      have HD := hide hJ.dd
      clear HI hJ hp hgl
      go_wp2_with fail
      refine (unhide HC).mono ?_
      rintro y w5 ⟨rfl, E, hE, hS, hO, x5⟩
      dsimp only
      have hlen := hE.length_eq
      have HR : Hid (E.Perm (L.filter (inM lo hi)) ∧ E.Pairwise (fun a b => ltM b a = false) ∧ w5.ownsRow X.heap.size 42 3 (.slice ag E.length cg) E.length (mksV E) ∧ Below X.heap.size X w5) := hide ⟨hE.trans (unhide HP), hS, by rw [hlen]; exact hO, (unhide HD).trans x5⟩
      have HE := hide hlen
      clear HC HP HD hE hS hO x5 hlen
      go_wp2_with fail
      refine bodyPost_ret (results_tmp rfl _ _ _) rfl ?_
      exact ⟨ag, cg, E, by rw [unhide HE]; rfl, unhide HR⟩
    · obtain ⟨mn, mp, mg⟩ := m
      unfold mkV at hr he
      dsimp only at hr he
      have b1 := (Below.refl X'.heap.size X').alloc (Nat.le_refl _) (.cells #[.string mn, .int .i64 mp, .int .i64 mg] 42)
      have k1 := Cls.new X' 42 #[.string mn, .int .i64 mp, .int .i64 mg]
      have d0 := k1.cell 0
      have d1 := k1.cell 1
      have d2 := k1.cell 2
      simp only [List.getElem?_toArray, List.getElem?_cons_zero, List.getElem?_cons_succ] at d0 d1 d2
      have HJ1 := hide (hJ'.on b1)
      have HL1 := hide (leftM_same (b1.block ri hJ'.it.lt.1) (b1.block r hJ'.it.lt.2))
      have HP := hide (And.intro hp hlt)
      clear HI hJ hp hJ' hlt b1 k1
      by_cases hk1 : lo ≤ mp
      · have t1 : decide (lo ≤ mp) = true := decide_eq_true hk1
        by_cases hk2 : mp ≤ hi
        · have t2 : decide (mp ≤ hi) = true := decide_eq_true hk2
          have hin : inM lo hi ⟨mn, mp, mg⟩ = true := by unfold inM; dsimp only; rw [t1, t2]; rfl
          have hgl : (S.filter (inM lo hi)).length ≤ 1099511627776 := by
            have h1 := List.length_filter_le (inM lo hi) S
            have h2 := (unhide HP).1.length_eq
            have h3 := unhide HL
            rw [List.length_append] at h2
            omega
          obtain ⟨v', W', ra, hJ2, hl2⟩ := (unhide HJ1).push (by rw [hri]; exact hrX) hin hgl
          dsimp only at ra
          rw [World.size_alloc] at ra
          have R := hide ra
          have HJ2 := hide hJ2
          have HM2 := hide (hl2.trans (unhide HL1))
          clear hk1 hk2 hin hgl ra hJ2 hl2 HJ1 HL1
          go_wp2_with (at_builtin; refine wpList_append_known rfl _ _ 27 27 rfl _ _ rfl rfl _ _ (unhide R) ?_; clear R)
          go_roundw
          case rel => exact ⟨⟨_, rfl⟩, hide ⟨_, unhide HJ2⟩⟩
          case measure => rw [unhide HM2]; exact (unhide HP).2
        · have t2 : decide (mp ≤ hi) = false := decide_eq_false hk2
          have hin : inM lo hi ⟨mn, mp, mg⟩ = false := by unfold inM; dsimp only; rw [t1, t2]; rfl
          have HJ2 := hide ((unhide HJ1).pass hin)
          clear hk1 hk2 hin HJ1
          go_wp2_with fail
          go_roundw
          case rel => exact ⟨⟨_, rfl⟩, hide ⟨_, unhide HJ2⟩⟩
          case measure => rw [unhide HL1]; exact (unhide HP).2
      · have t1 : decide (lo ≤ mp) = false := decide_eq_false hk1
        have hin : inM lo hi ⟨mn, mp, mg⟩ = false := by unfold inM; dsimp only; rw [t1]; rfl
        have HJ2 := hide ((unhide HJ1).pass hin)
        clear hk1 hin HJ1
        go_wp2_with fail
        go_roundw
        case rel => exact ⟨⟨_, rfl⟩, hide ⟨_, unhide HJ2⟩⟩
        case measure => rw [unhide HL1]; exact (unhide HP).2
set_option maxRecDepth 100000 in
set_option maxHeartbeats 1000000 in
theorem MList_at (g : Nat) (n : Int) (L : List Mk) (X : World) (h : IsMs X g n L) (hL : L.length ≤ 1048576) :
    Calls Try.prog 11 #[.pointer (some ⟨g, 0, none⟩)] X fun y X' => ∃ a c, ∃ E : List Mk, y = .returned (.slice a E.length c) ∧ E.Perm (L.filter (inM 0 n)) ∧ E.Pairwise (fun a b => ltM b a = false) ∧ X'.ownsRow X.heap.size 42 3 (.slice a E.length c) E.length (mksV E) ∧ Below X.heap.size X X' := by
  have H1 := hide (MLen_at g n L X h)
  have H2 := hide fun (Y : World) (hY : Below X.heap.size X Y) => MBtw_at g n L 0 n Y (h.below hY (Nat.le_refl _)) hL
  clear h hL
  go_enter Try.func11, Try.ntmps11
  go_wp2_with fail
  refine (unhide H1).mono ?_
  rintro y w1 ⟨rfl, x1⟩
  dsimp only
  have HX := hide x1
  have HC := hide (unhide H2 w1 x1)
  clear H1 H2 x1
  go_wp2_with fail
  refine (unhide HC).mono ?_
  rintro y w2 ⟨a, c, E, rfl, e1, e2, e3, x2⟩
  dsimp only
  have HR := hide (And.intro e1 (And.intro e2 (And.intro (rowD_base e3 (unhide HX).size) ((unhide HX).trans (x2.mono (unhide HX).size)))))
  clear HC HX e1 e2 e3 x2
  go_wp2_with fail
  refine bodyPost_ret (results_tmp rfl _ _ _) rfl ?_
  exact ⟨a, c, E, rfl, unhide HR⟩
end Go.Proofs.Ytfllomlighlejaa
end

section
namespace Go.Proofs.Ytfllomlighlejaa
open Go.ChangeShapes Go.WideShapes Go.ChangeAt Go.RowKit
attribute [local go_sem] Oper.semAt_some

set_option maxRecDepth 100000 in
set_option maxHeartbeats 1000000 in
theorem MLenN_at (X : World) : Calls Try.prog 10 #[.pointer none] X fun y X' => y = .returned (.int .i64 0) ∧ Below X.heap.size X X' := by
  go_enter Try.func10, Try.ntmps10
  go_wp2_with fail
  refine bodyPost_ret (results_tmp rfl _ _ _) rfl ⟨rfl, Below.refl _ _⟩
set_option maxRecDepth 100000 in
set_option maxHeartbeats 1000000 in
theorem MDropN_at (s : ByteArray) (X : World) : Calls Try.prog 17 #[.pointer none, .string s] X fun y X' => y = .returned (.tuple #[.pointer none, .int .i64 1]) ∧ Below X.heap.size X X' := by
  go_enter Try.func17, Try.ntmps17
  go_wp2_with fail
  refine bodyPost_ret (results_tmp2 rfl _ _ _) rfl ⟨rfl, Below.refl _ _⟩
set_option maxRecDepth 100000 in
set_option maxHeartbeats 1000000 in
theorem MBetweenN_at (a b : Int) (X : World) : Calls Try.prog 14 #[.pointer none, .int .i64 a, .int .i64 b] X fun y X' => y = .returned (.slice none 0 0) ∧ Below X.heap.size X X' := by
  go_enter Try.func14, Try.ntmps14
  go_wp2_with fail
  refine bodyPost_ret (results_tmp rfl _ _ _) rfl ⟨rfl, Below.refl _ _⟩
set_option maxRecDepth 100000 in
set_option maxHeartbeats 1000000 in
theorem MBehN_at (v : Value) (X : World) : Calls Try.prog 7 #[.pointer none, v] X fun y X' => y = .returned (.tuple #[.pointer none, .int .i64 1]) ∧ Below X.heap.size X X' := by
  go_enter Try.func7, Try.ntmps7
  go_wp2_with fail
  refine bodyPost_ret (results_tmp2 rfl _ _ _) rfl ⟨rfl, Below.refl _ _⟩
set_option maxRecDepth 100000 in
set_option maxHeartbeats 1000000 in
theorem MGetN_at (s : ByteArray) (X : World) : Calls Try.prog 12 #[.pointer none, .string s] X fun y X' => y = .returned (.tuple #[.agg #[.string ⟨#[]⟩, .int .i64 0, .int .i64 0], .bool false]) ∧ Below X.heap.size X X' := by
  have b0 := (Below.refl X.heap.size X).alloc (Nat.le_refl _) (.cells #[.string ⟨#[]⟩, .int .i64 0, .int .i64 0] 42)
  have k0 := Cls.new X 42 #[.string ⟨#[]⟩, .int .i64 0, .int .i64 0]
  have HB := hide b0
  have f0 := k0.frozen 0
  have f1 := k0.frozen 1
  have f2 := k0.frozen 2
  have e0 := k0.cell 0
  have e1 := k0.cell 1
  have e2 := k0.cell 2
  simp only [List.getElem?_toArray, List.getElem?_cons_zero, List.getElem?_cons_succ] at e0 e1 e2
  clear b0 k0
  go_enter Try.func12, Try.ntmps12
  go_wp2_with fail
  refine bodyPost_ret (v := .tuple #[.agg #[.string ⟨#[]⟩, .int .i64 0, .int .i64 0], .bool false]) (by simp [results, Try.results12, go_sem, e0, e1, e2]) rfl ⟨rfl, unhide HB⟩
set_option maxRecDepth 100000 in
set_option maxHeartbeats 1000000 in
theorem MListN_at (X : World) : Calls Try.prog 11 #[.pointer none] X fun y X' => y = .returned (.slice none 0 0) ∧ Below X.heap.size X X' := by
  have H1 := hide (MLenN_at X)
  have H2 := hide fun (Y : World) (a b : Int) => MBetweenN_at a b Y
  go_enter Try.func11, Try.ntmps11
  go_wp2_with fail
  refine (unhide H1).mono ?_
  rintro y w1 ⟨rfl, x1⟩
  dsimp only
  have HX1 := hide x1
  have HC := hide (unhide H2 w1 0 0)
  clear H1 H2 x1
  go_wp2_with fail
  refine (unhide HC).mono ?_
  rintro y w2 ⟨rfl, x2⟩
  dsimp only
  have HX2 := hide ((unhide HX1).trans (x2.mono (unhide HX1).size))
  clear HC HX1 x2
  go_wp2_with fail
  refine bodyPost_ret (results_tmp rfl _ _ _) rfl ⟨rfl, unhide HX2⟩
set_option maxRecDepth 100000 in
set_option maxHeartbeats 1000000 in
theorem MSetN_at (x : Mk) (X : World) : Calls Try.prog 16 #[.pointer none, mkV x] X fun y X' => y = .returned (.tuple #[.pointer none, .int .i64 1]) ∧ Below X.heap.size X X' := by
  obtain ⟨xn, xp, xg⟩ := x
  unfold mkV
  dsimp only
  have HR : Hid (∀ Y : World, Calls Try.prog 29 #[.pointer none, .agg #[.string xn, .int .i64 xp, .int .i64 xg]] Y fun y X' => y = .returned (.int .i64 1) ∧ Below Y.heap.size Y X') := hide fun Y => by
    have HB := hide ((Below.refl Y.heap.size Y).alloc (Nat.le_refl _) (.cells #[.string xn, .int .i64 xp, .int .i64 xg] 42))
    go_enter Try.func29, Try.ntmps29
    go_wp2_with fail
    refine bodyPost_ret (results_tmp rfl _ _ _) rfl ⟨rfl, unhide HB⟩
  have b1 := (Below.refl X.heap.size X).alloc (Nat.le_refl _) (.cells #[.string xn, .int .i64 xp, .int .i64 xg] 42)
  have k1 := Cls.new X 42 #[.string xn, .int .i64 xp, .int .i64 xg]
  have d0 := k1.cell 0
  have d1 := k1.cell 1
  have d2 := k1.cell 2
  simp only [List.getElem?_toArray, List.getElem?_cons_zero, List.getElem?_cons_succ] at d0 d1 d2
  have HB := hide b1
  have HC := hide (unhide HR (X.alloc (.cells #[.string xn, .int .i64 xp, .int .i64 xg] 42)))
  clear b1 k1 HR
  go_enter Try.func16, Try.ntmps16
  go_wp2_with fail
  refine (unhide HC).mono ?_
  rintro y w1 ⟨rfl, x1⟩
  dsimp only
  have HX := hide ((unhide HB).trans (x1.mono (unhide HB).size))
  clear HC HB x1 d0 d1 d2
  go_wp2_with fail
  refine bodyPost_ret (results_tmp2 rfl _ _ _) rfl ⟨rfl, unhide HX⟩

def exL : Mk := ⟨⟨#[108]⟩, 2, 1⟩
def exRm : Mk := ⟨⟨#[114]⟩, 2, 2⟩
def exD15 : List Dop := [⟨1, 2, []⟩, ⟨2, 0, [120, 121]⟩, ⟨1, 3, []⟩]
theorem ex15_v : valB exD15 = true ∧ frD exD15 = 5 ∧ toD exD15 = 7 := by decide
theorem ex15_p : plV exD15 2 2 = 4 := by decide
theorem ex15_r : refM 5 [] exL = 0 ∧ refM 5 [exL] exRm = 0 := by decide
theorem ex15_u : Unl [exL, exRm] := by unfold Unl; decide
theorem ex15_put : putM exL [] = [exL] ∧ putM exRm [exL] = [exL, exRm] := ⟨rfl, rfl⟩
theorem ex15_f : [exL, exRm].filter (inM 0 5) = [exL, exRm] ∧ [exL].filter (inM 0 5) = [exL] ∧ [exL, exRm].filter (inM 2 2) = [exL, exRm] ∧ [exRm].filter (inM 0 5) = [exRm] := ⟨rfl, rfl, rfl, rfl⟩
theorem ex15_g {S : List Mk} (h : S.Perm [exL, exRm]) : ((getM ⟨#[114]⟩ (S.map (mvM exD15))).map mkV).getD (.agg #[.string ⟨#[]⟩, .int .i64 0, .int .i64 0]) = .agg #[.string ⟨#[114]⟩, .int .i64 4, .int .i64 2] ∧ (getM ⟨#[114]⟩ (S.map (mvM exD15))).isSome = true := by
  have hu : Unl (S.map (mvM exD15)) := by
    unfold Unl
    have e : (S.map (mvM exD15)).map (·.n) = S.map (·.n) := by simp [List.map_map, Function.comp_def, mvM_n]
    rw [e]
    exact (ex15_u.perm h.symm)
  have hm : mvM exD15 exRm ∈ S.map (mvM exD15) := List.mem_map.2 ⟨exRm, h.mem_iff.2 (by simp), rfl⟩
  rw [getM_is (s := ⟨#[114]⟩) hu hm rfl]
  refine ⟨?_, rfl⟩
  show mkV (mvM exD15 exRm) = _
  unfold mvM mkV exRm
  dsimp only
  rw [ex15_p]
theorem lit_isOM (X : World) (ds : List Dop) (cs : Array Value) (h : cs.toList = opsV ds) : IsO (X.alloc (.cells cs 50)) (some ⟨X.heap.size, 0, none⟩) ds := by
  refine Or.inr ⟨_, _, rfl, by simp, fun k hk => ?_⟩
  have f : ∀ j, (X.alloc (.cells cs 50)).cell? ⟨X.heap.size, j, none⟩ = cs[j]? := fun j => World.cell?_alloc_mark X _ _ (0, 0) j
  have g : ∀ j, j < 3 → cs[k * 3 + j]? = (opL (ds.getD k opZ))[j]? := fun j hj => by
    rw [← opsV_get ds k j hk hj, ← h, Array.getElem?_toList]
  refine ⟨?_, ?_, ?_⟩
  · rw [Nat.zero_add, f]; exact g 0 (by decide)
  · rw [Nat.zero_add, f]; exact g 1 (by decide)
  · rw [Nat.zero_add, f]; exact g 2 (by decide)
theorem len2 {E K : List Mk} {n : Nat} (h : E.Perm K) (hk : K.length = n) : E.length = n := h.length_eq.trans hk
set_option maxRecDepth 100000 in
set_option maxHeartbeats 4000000 in
theorem awake15_at (w : World) : Calls Try.prog 5 #[] w fun y w' => y = .returned (.bool true) ∧ Below w.heap.size w w' := by
  have HX0 := hide (Below.refl w.heap.size w)
  have HNew := hide fun (Y : World) (_ : Below w.heap.size w Y) => MNew_at 5 Y (by decide)
  have HLen := hide fun (Y : World) (_ : Below w.heap.size w Y) (g : Nat) (n : Int) (L : List Mk) (h : IsMs Y g n L) => MLen_at g n L Y h
  have HS1 := hide fun (Y : World) (_ : Below w.heap.size w Y) (g : Nat) (h : IsMs Y g 5 []) => MSet_at g 5 [] exL Y h ex15_r.1
  have HS2 := hide fun (Y : World) (_ : Below w.heap.size w Y) (g : Nat) (h : IsMs Y g 5 [exL]) => MSet_at g 5 [exL] exRm Y h ex15_r.2
  have HLi := hide fun (Y : World) (_ : Below w.heap.size w Y) (g : Nat) (n : Int) (L : List Mk) (hL : L.length ≤ 1048576) (h : IsMs Y g n L) => MList_at g n L Y h hL
  have HBt := hide fun (Y : World) (_ : Below w.heap.size w Y) (g : Nat) (h : IsMs Y g 5 [exL, exRm]) => MBtw_at g 5 [exL, exRm] 2 2 Y h (by simp)
  have HBe := hide fun (Y : World) (_ : Below w.heap.size w Y) (g : Nat) (h : IsMs Y g 5 [exL, exRm]) => MBeh_at g 5 [exL, exRm] (some ⟨Y.heap.size, 0, none⟩) 3 exD15 (Y.alloc (.cells #[.int .i64 1, .int .i64 2, .string ⟨#[]⟩, .int .i64 2, .int .i64 0, .string ⟨#[120, 121]⟩, .int .i64 1, .int .i64 3, .string ⟨#[]⟩] 50)) (h.below ((Below.refl _ _).alloc (Nat.le_refl _) _) (Nat.le_refl _)) (lit_isOM Y exD15 _ (by kernel_rfl)) (by decide) ex15_v.1 (by rw [ex15_v.2.1]; rfl) ex15_u
  have HDr := hide fun (Y : World) (_ : Below w.heap.size w Y) (g : Nat) (h : IsMs Y g 5 [exL, exRm]) => MDrop_at g 5 [exL, exRm] ⟨#[108]⟩ Y h exL rfl
  have HGe := hide fun (Y : World) (_ : Below w.heap.size w Y) (g : Nat) (S : List Mk) (hp : S.Perm [exL, exRm]) (h : IsMs Y g 7 (S.map (mvM exD15))) => ((MGet_at g 7 (S.map (mvM exD15)) ⟨#[114]⟩ Y h).mono fun y w' hh => (by rw [(ex15_g hp).1, (ex15_g hp).2] at hh; exact hh : y = .returned (.tuple #[.agg #[.string ⟨#[114]⟩, .int .i64 4, .int .i64 2], .bool true]) ∧ Below Y.heap.size Y w'))
  rw [show mkV exL = .agg #[.string ⟨#[108]⟩, .int .i64 2, .int .i64 1] from rfl, ex15_put.1] at HS1
  rw [show mkV exRm = .agg #[.string ⟨#[114]⟩, .int .i64 2, .int .i64 2] from rfl, ex15_put.2] at HS2
  rw [show exD15.length = 3 from rfl, ex15_v.2.2] at HBe
  rw [show delM ⟨#[108]⟩ [exL, exRm] = [exRm] from rfl] at HDr
  go_enter Try.func5, Try.ntmps5
  have HC1 := hide (unhide HNew w (unhide HX0))
  go_wp2_with fail
  refine (unhide HC1).mono ?_
  rintro y w1 ⟨g1, rfl, _, s1, x1⟩
  dsimp only
  have HX1 := hide ((unhide HX0).trans (x1.mono (unhide HX0).size))
  have S1_1 := hide (s1)
  clear HC1 HX0 x1  s1 HNew
  have HC2 := hide (unhide HLen w1 (unhide HX1) g1 5 [] (unhide S1_1))
  go_wp2_with fail
  refine (unhide HC2).mono ?_
  rintro y w2 ⟨rfl, x2⟩
  dsimp only
  have HX2 := hide ((unhide HX1).trans (x2.mono (unhide HX1).size))
  have S1_2 := hide ((unhide S1_1).below x2 (Nat.le_refl _))
  clear HC2 HX1 x2 S1_1 
  have HC3 := hide (unhide HS1 w2 (unhide HX2) g1 (unhide S1_2))
  go_wp2_with fail
  refine (unhide HC3).mono ?_
  rintro y w3 ⟨g2, rfl, s2, x3⟩
  dsimp only
  have HX3 := hide ((unhide HX2).trans (x3.mono (unhide HX2).size))
  have S1_3 := hide ((unhide S1_2).below x3 (Nat.le_refl _))
  have S2_3 := hide (s2)
  clear HC3 HX2 x3 S1_2 s2 HS1
  have HC4 := hide (unhide HS2 w3 (unhide HX3) g2 (unhide S2_3))
  go_wp2_with fail
  refine (unhide HC4).mono ?_
  rintro y w4 ⟨g3, rfl, s3, x4⟩
  dsimp only
  have HX4 := hide ((unhide HX3).trans (x4.mono (unhide HX3).size))
  have S1_4 := hide ((unhide S1_3).below x4 (Nat.le_refl _))
  have S2_4 := hide ((unhide S2_3).below x4 (Nat.le_refl _))
  have S3_4 := hide (s3)
  clear HC4 HX3 x4 S1_3 S2_3 s3 HS2
  have HC5 := hide (unhide HLi w4 (unhide HX4) g3 5 [exL, exRm] (by simp) (unhide S3_4))
  go_wp2_with fail
  refine (unhide HC5).mono ?_
  rintro y w5 ⟨a5, c5, E5, rfl, p5, _, _, x5⟩
  dsimp only
  have HX5 := hide ((unhide HX4).trans (x5.mono (unhide HX4).size))
  have S1_5 := hide ((unhide S1_4).below x5 (Nat.le_refl _))
  have S2_5 := hide ((unhide S2_4).below x5 (Nat.le_refl _))
  have S3_5 := hide ((unhide S3_4).below x5 (Nat.le_refl _))
  clear HC5 HX4 x5 S1_4 S2_4 S3_4 
  have z5 : E5.length = 2 := len2 p5 rfl
  clear p5
  rw [z5]
  have HC6 := hide (unhide HLi w5 (unhide HX5) g2 5 [exL] (by simp) (unhide S2_5))
  go_wp2_with fail
  refine (unhide HC6).mono ?_
  rintro y w6 ⟨a6, c6, E6, rfl, p6, _, _, x6⟩
  dsimp only
  have HX6 := hide ((unhide HX5).trans (x6.mono (unhide HX5).size))
  have S1_6 := hide ((unhide S1_5).below x6 (Nat.le_refl _))
  have S2_6 := hide ((unhide S2_5).below x6 (Nat.le_refl _))
  have S3_6 := hide ((unhide S3_5).below x6 (Nat.le_refl _))
  clear HC6 HX5 x6 S1_5 S2_5 S3_5 
  have z6 : E6.length = 1 := len2 p6 rfl
  clear p6 z5
  rw [z6]
  have HC7 := hide (unhide HBt w6 (unhide HX6) g3 (unhide S3_6))
  go_wp2_with fail
  refine (unhide HC7).mono ?_
  rintro y w7 ⟨a7, c7, E7, rfl, p7, _, _, x7⟩
  dsimp only
  have HX7 := hide ((unhide HX6).trans (x7.mono (unhide HX6).size))
  have S1_7 := hide ((unhide S1_6).below x7 (Nat.le_refl _))
  have S2_7 := hide ((unhide S2_6).below x7 (Nat.le_refl _))
  have S3_7 := hide ((unhide S3_6).below x7 (Nat.le_refl _))
  clear HC7 HX6 x7 S1_6 S2_6 S3_6 HBt
  have z7 : E7.length = 2 := len2 p7 rfl
  clear p7 z6
  rw [z7]
  clear z7
  have HC8 := hide (unhide HBe w7 (unhide HX7) g3 (unhide S3_7))
  go_wp2_with fail
  refine (unhide HC8).mono ?_
  rintro y w8 ⟨g8, S, rfl, hp, s8, x8⟩
  dsimp only
  have b8 := (Below.refl w7.heap.size w7).alloc (Nat.le_refl _) (.cells #[.int .i64 1, .int .i64 2, .string ⟨#[]⟩, .int .i64 2, .int .i64 0, .string ⟨#[120, 121]⟩, .int .i64 1, .int .i64 3, .string ⟨#[]⟩] 50)
  have y8 := b8.trans (x8.mono b8.size)
  have HX8 := hide ((unhide HX7).trans (y8.mono (unhide HX7).size))
  have S3_8 := hide ((unhide S3_7).below y8 (Nat.le_refl _))
  have S8_8 := hide s8
  have HP8 := hide hp
  clear HC8 HX7 x8 y8 b8 S1_7 S2_7 S3_7 s8 hp HBe
  have HC9 := hide (unhide HDr w8 (unhide HX8) g3 (unhide S3_8))
  go_wp2_with fail
  refine (unhide HC9).mono ?_
  rintro y w9 ⟨g9, rfl, s9, x9⟩
  dsimp only
  have HX9 := hide ((unhide HX8).trans (x9.mono (unhide HX8).size))
  have S3_9 := hide ((unhide S3_8).below x9 (Nat.le_refl _))
  have S8_9 := hide ((unhide S8_8).below x9 (Nat.le_refl _))
  have S9_9 := hide (s9)
  clear HC9 HX8 x9 S3_8 S8_8 s9 HDr
  have HC10 := hide (unhide HLi w9 (unhide HX9) g9 5 [exRm] (by simp) (unhide S9_9))
  go_wp2_with fail
  refine (unhide HC10).mono ?_
  rintro y w10 ⟨a10, c10, E10, rfl, p10, _, _, x10⟩
  dsimp only
  have HX10 := hide ((unhide HX9).trans (x10.mono (unhide HX9).size))
  have S3_10 := hide ((unhide S3_9).below x10 (Nat.le_refl _))
  have S8_10 := hide ((unhide S8_9).below x10 (Nat.le_refl _))
  have S9_10 := hide ((unhide S9_9).below x10 (Nat.le_refl _))
  clear HC10 HX9 x10 S3_9 S8_9 S9_9 
  have z10 : E10.length = 1 := len2 p10 rfl
  clear p10
  rw [z10]
  clear z10
  have HC11 := hide (unhide HLen w10 (unhide HX10) g8 7 _ (unhide S8_10))
  go_wp2_with fail
  refine (unhide HC11).mono ?_
  rintro y w11 ⟨rfl, x11⟩
  dsimp only
  have HX11 := hide ((unhide HX10).trans (x11.mono (unhide HX10).size))
  have S3_11 := hide ((unhide S3_10).below x11 (Nat.le_refl _))
  have S8_11 := hide ((unhide S8_10).below x11 (Nat.le_refl _))
  have S9_11 := hide ((unhide S9_10).below x11 (Nat.le_refl _))
  clear HC11 HX10 x11 S3_10 S8_10 S9_10 HLen HLi
  have HC12 := hide (unhide HGe w11 (unhide HX11) g8 S (unhide HP8) (unhide S8_11))
  go_wp2_with fail
  refine (unhide HC12).mono ?_
  rintro y w12 ⟨rfl, x12⟩
  dsimp only
  have HX12 := hide ((unhide HX11).trans (x12.mono (unhide HX11).size))
  have S3_12 := hide ((unhide S3_11).below x12 (Nat.le_refl _))
  have S8_12 := hide ((unhide S8_11).below x12 (Nat.le_refl _))
  have S9_12 := hide ((unhide S9_11).below x12 (Nat.le_refl _))
  clear HC12 HX11 x12 S3_11 S8_11 S9_11 HGe HP8
  have hx := unhide HX12
  have k5 := Cls.new w12 42 #[.string ⟨#[114]⟩, .int .i64 4, .int .i64 2]
  have c0 := k5.cell 0
  have c1 := k5.cell 1
  have c2 := k5.cell 2
  simp only [List.getElem?_toArray, List.getElem?_cons_zero, List.getElem?_cons_succ] at c0 c1 c2
  have HB := hide (hx.alloc hx.size (.cells #[.string ⟨#[114]⟩, .int .i64 4, .int .i64 2] 42))
  clear hx k5 HX12
  go_wp2_with fail
  refine bodyPost_ret (results_tmp rfl _ _ _) rfl ⟨rfl, unhide HB⟩
end Go.Proofs.Ytfllomlighlejaa
end
