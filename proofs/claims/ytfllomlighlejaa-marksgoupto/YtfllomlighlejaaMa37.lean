/- Layer 15: marks sorted; Between, List. -/
import Derived.Test.YtfllomlighlejaaMa18
import Derived.Test.YtfllomlighlejaaMa35
import Derived.Test.YtfllomlighlejaaMa36
import Derived.Shelf.SlSortCmp.NoneTotal

namespace Go.Proofs.Ytfllomlighlejaa
open Go.ChangeShapes Go.WideShapes Go.ChangeAt Go.RowKit
attribute [local go_sem] Oper.semAt_some

open Go.Sort in
theorem swoM : SWO (ltOf cmpM) where
  irrefl x := by show decide (cmpM x x < 0) = false; rw [cmpM_neg]; exact ltM_irrefl x
  trans x y z h1 h2 := by
    change decide (cmpM x y < 0) = true at h1
    change decide (cmpM y z < 0) = true at h2
    show decide (cmpM x z < 0) = true
    rw [cmpM_neg] at *
    exact ltM_trans h1 h2
  ntrans x y z h1 h2 := by
    change decide (cmpM x y < 0) = false at h1
    change decide (cmpM y z < 0) = false at h2
    show decide (cmpM x z < 0) = false
    rw [cmpM_neg] at *
    exact ltM_ntrans h1 h2
theorem sorted_pw {d' : Array Mk} (h : Go.Sort.SortedIn (ltOf cmpM) 0 d'.size d') : d'.toList.Pairwise fun a b => ltM b a = false := by
  rw [List.pairwise_iff_getElem]
  intro i j hi hj hij
  have := h i j (Nat.zero_le _) hij (by simpa using hj)
  change decide (cmpM d'[j]! d'[i]! < 0) = false at this
  rw [cmpM_neg] at this
  have e1 : d'[j]! = d'.toList[j] := by rw [getElem!_pos d' j (by simpa using hj)]; simp
  have e2 : d'[i]! = d'.toList[i] := by rw [getElem!_pos d' i (by simpa using hi)]; simp
  rw [e1, e2] at this
  exact this
open Go.Sort in
set_option maxRecDepth 100000 in
theorem MSort_at (w : World) (B : Nat) (a : Option Addr) (c : Nat) (l : List Mk) (h : w.ownsRow B 42 3 (.slice a l.length c) l.length (mksV l)) (hl : l.length ≤ 1048576) (hB : B ≤ w.heap.size) :
    Calls Try.prog 27 #[.slice a l.length c, .func (.func 28) #[] #[]] w fun y w' => y = .returned (.tuple #[]) ∧ ∃ E : List Mk, E.Perm l ∧ E.Pairwise (fun a b => ltM b a = false) ∧ w'.ownsRow B 42 3 (.slice a l.length c) l.length (mksV E) ∧ Go.RowKit.Below B w w' := by
  have eg : ∀ args w, (callFunc 28 args).run Try.prog w = .ok (.enter 28 args) w := enters_of Try.func28 (by kernel_rfl) rfl
  by_cases h0 : l = []
  · subst h0
    have hcon := AnyF.slices_SortFunc_none Try.sortMk a c (.func (.func 28) #[] #[]) w
    change Calls Try.prog 27 _ _ _ at hcon
    refine hcon.mono fun y w' ⟨e, e2⟩ => ?_
    subst e2
    exact ⟨e, [], List.Perm.refl _, List.Pairwise.nil, h, Go.RowKit.Below.refl _ _⟩
  · obtain ⟨g, c', e, _, hlt⟩ := h.form (List.length_pos_iff.2 h0)
    cases e
    have hH := own_holdsK mkL 3 mkL_len (by decide) (l := l) h
    have hcmp : CmpLays Try.prog 28 #[] mkL 3 cmpM g 0 l.toArray.size w := fun _ _ _ _ x y => MCmp_at x y _
    have hcon := AnyQ.slices_SortFunc Try.sortMk 3 Try.isAgg42 Try.sizeOf42 mkL mkL_len (fun x v hv => by simp [mkL] at hv; rcases hv with rfl | rfl | rfl <;> rfl) cmpM swoM 28 #[] g 0 c l.toArray w eg hcmp hH hlt (by simp; omega)
    change Calls Try.prog 27 _ _ _ at hcon
    rw [List.size_toArray] at hcon
    refine hcon.mono fun y w' ⟨e, d', n, os, hp, hs, e2⟩ => ⟨e, d'.toList, ?_, ?_, ?_⟩
    · have := hp.2.2
      rw [Array.extract_eq_self_of_le (by rw [hp.1]; simp), Array.extract_eq_self_of_le (by simp)] at this
      simpa using this
    · have hsz : d'.size = l.length := by rw [hp.1]; simp
      rw [← hsz] at hs
      exact sorted_pw hs
    · subst e2
      have hsz : d'.toList.length = l.length := by rw [Array.length_toList, hp.1]; simp
      have hso := sort_own mkL 3 mkL_len (by decide) (l := l) h d'.toList hsz n os
      exact ⟨hso.1, hso.2.2 B (rowD_block h (G := g) rfl).1 hB⟩
def inM (lo hi : Int) (m : Mk) : Bool := decide (lo ≤ m.p) && decide (m.p ≤ hi)
/-- what Between's loop keeps: the iterator (I came out) and the list (of S, what lies between) -/
structure MtJ (X wx : World) (ri bm : Nat) (lo hi : Int) (L I S : List Mk) (v7 : Value) : Prop where
  it : ItM wx ri bm L I
  go : wx.ownsRow X.heap.size 42 3 v7 (S.filter (inM lo hi)).length (mksV (S.filter (inM lo hi)))
  dd : Below X.heap.size X wx
  nn : X.heap.size ≤ ri
theorem MtJ.on {X wx wy : World} {ri bm : Nat} {lo hi : Int} {L I S : List Mk} {v7 : Value} (h : MtJ X wx ri bm lo hi L I S v7) (hb : Below wx.heap.size wx wy) : MtJ X wy ri bm lo hi L I S v7 :=
  ⟨h.it.below hb (Nat.le_refl _), rowD_below h.go hb (Nat.le_refl _), h.dd.trans (hb.mono h.dd.size), h.nn⟩
theorem MtJ.next {X wx : World} {ri bm : Nat} {lo hi : Int} {L S : List Mk} {v7 : Value} (h : MtJ X wx ri bm lo hi L S S v7) (ty : TypeId) :
    (S.Perm L ∧ (Instr.next (.pointer (some ⟨ri, 0, none⟩)) false ty).run Try.prog wx = .ok (.tuple #[.bool false]) wx) ∨
    ∃ m T X', (S ++ m :: T).Perm L ∧ (Instr.next (.pointer (some ⟨ri, 0, none⟩)) false ty).run Try.prog wx = .ok (.tuple #[.bool true, .string m.n, mkV m]) X' ∧ (Instr.entry (.pointer (some ⟨ri, 0, none⟩))).run Try.prog X' = .ok (.tuple #[.string m.n, mkV m]) X' ∧ MtJ X X' ri bm lo hi L (S ++ [m]) S v7 ∧ leftM X' bm ri < leftM wx bm ri := by
  rcases h.it.next (P := Try.prog) ty with h1 | ⟨m, T, X', p, r, e, i, hs, hk, hl, hb⟩
  · exact .inl h1
  · refine .inr ⟨m, T, X', p, r, e, ⟨i, rowD_on h.go fun G hG => hk G fun eq => ?_, h.dd.trans (hb _ h.nn), h.nn⟩, hl⟩
    obtain ⟨_, c, hc⟩ := rowD_block h.go hG
    obtain ⟨_, _, _, _, _, _, a, _⟩ := h.it.c
    rw [eq, a] at hc; cases hc
theorem MtJ.pass {X wx : World} {ri bm : Nat} {lo hi : Int} {L S : List Mk} {m : Mk} {v7 : Value} (h : MtJ X wx ri bm lo hi L (S ++ [m]) S v7) (hk : inM lo hi m = false) : MtJ X wx ri bm lo hi L (S ++ [m]) (S ++ [m]) v7 := by
  have e : (S ++ [m]).filter (inM lo hi) = S.filter (inM lo hi) := by simp [List.filter_append, hk]
  exact ⟨h.it, by rw [e]; exact h.go, h.dd, h.nn⟩
theorem MtJ.push {X wx : World} {ri bm : Nat} {lo hi : Int} {L S : List Mk} {m : Mk} {v7 : Value} (h : MtJ X wx ri bm lo hi L (S ++ [m]) S v7) (hb : bm < X.heap.size) (hk : inM lo hi m = true) (hl : (S.filter (inM lo hi)).length ≤ 1099511627776) :
    ∃ v' W', (Builtin.append_ #[27, 27] 27 #[v7, .slice (some ⟨wx.heap.size, 0, none⟩) 1 1]).run Try.prog (wx.alloc (.cells #[.string m.n, .int .i64 m.p, .int .i64 m.g] 42)) = .ok v' W' ∧ MtJ X W' ri bm lo hi L (S ++ [m]) (S ++ [m]) v' ∧ leftM W' bm ri = leftM wx bm ri := by
  obtain ⟨g, c, W', r, ho, hg, bb⟩ := push_mk wx X.heap.size (S.filter (inM lo hi)).length v7 (mksV (S.filter (inM lo hi))) m.n m.p m.g 27 h.go hl h.dd.size
  have hri := h.it.lt
  have e1 : W'.heap[ri]? = wx.heap[ri]? := hg.block ri hri.1 fun e => by
    obtain ⟨_, cur, hcur⟩ := rowD_block h.go e.symm
    obtain ⟨_, _, _, _, _, _, a, _⟩ := h.it.c
    rw [a] at hcur; cases hcur
  have e2 : W'.heap[bm]? = wx.heap[bm]? := bb.block bm hb
  have e : (S ++ [m]).filter (inM lo hi) = S.filter (inM lo hi) ++ [m] := by simp [List.filter_append, hk]
  refine ⟨_, W', r, ⟨h.it.same e1 e2, ?_, h.dd.trans bb, h.nn⟩, leftM_same e1 e2⟩
  rw [e, List.length_append, List.length_singleton, mksV_app, mksV_one]
  exact ho
set_option maxRecDepth 100000 in
set_option maxHeartbeats 4000000 in
theorem MBtw_at (g : Nat) (n : Int) (L : List Mk) (lo hi : Int) (X : World) (h : IsMs X g n L) (hL : L.length ≤ 1048576) :
    Calls Try.prog 14 #[.pointer (some ⟨g, 0, none⟩), .int .i64 lo, .int .i64 hi] X fun y X' => ∃ a c, ∃ E : List Mk, y = .returned (.slice a E.length c) ∧ E.Perm (L.filter (inM lo hi)) ∧ E.Pairwise (fun a b => ltM b a = false) ∧ X'.ownsRow X.heap.size 42 3 (.slice a E.length c) E.length (mksV E) ∧ Below X.heap.size X X' := by
  obtain ⟨r, kg, mg⟩ := h.c
  have hrX : r < X.heap.size := mg.lt
  have c1 := kg.cell 1
  simp only [List.getElem?_toArray, List.getElem?_cons_zero, List.getElem?_cons_succ] at c1
  obtain ⟨o, RR, it⟩ := ItM.start (P := Try.prog) X Try.underlying67 mg
  have hj : MtJ X (X.alloc o) X.heap.size r lo hi L [] [] (.slice none 0 0) := ⟨it, World.ownsRow_nil _ _ _ _, (Below.refl _ _).alloc (Nat.le_refl _) o, Nat.le_refl _⟩
  have HJ := hide hj
  have HL := hide hL
  clear h kg mg it hj hL
  go_enter Try.func14, Try.ntmps14
  go_wp2_with fail
  generalize hri : X.heap.size = ri at *
  go_loopw [7, 9] (fun v7 v9 wx => (∃ z, v9 = z) ∧ Hid (∃ S, MtJ X wx ri r lo hi L S S v7)) (fun _ _ wx => leftM wx r ri)
  case atStart => exact ⟨⟨_, rfl⟩, hide ⟨[], unhide HJ⟩⟩
  case round =>
    clear HJ
    obtain ⟨⟨z2, rfl⟩, HI⟩ := hrel
    obtain ⟨S, hJ⟩ := unhide HI
    rcases hJ.next 0 with ⟨hp, hr⟩ | ⟨m, T, X', hp, hr, he, hJ', hlt⟩
    · obtain ⟨ag, cg, hv7, _⟩ := rowD_form hJ.go
      subst hv7
      have hgl : (S.filter (inM lo hi)).length ≤ 1048576 := by
        have h1 := List.length_filter_le (inM lo hi) S
        have h2 := hp.length_eq
        have h3 := unhide HL
        omega
      have HC := hide (MSort_at wr X.heap.size ag cg (S.filter (inM lo hi)) hJ.go hgl hJ.dd.size)
      have HP := hide (hp.filter (inM lo hi))
      have HD := hide hJ.dd
      clear HI hJ hp hgl
      go_wp2_with fail
      refine (unhide HC).mono ?_
      rintro y w5 ⟨rfl, E, hE, hS, hO, x5⟩
      dsimp only
      have hlen := hE.length_eq
      have HR : Hid (E.Perm (L.filter (inM lo hi)) ∧ E.Pairwise (fun a b => ltM b a = false) ∧ w5.ownsRow X.heap.size 42 3 (.slice ag E.length cg) E.length (mksV E) ∧ Below X.heap.size X w5) := hide ⟨hE.trans (unhide HP), hS, by rw [hlen]; exact hO, (unhide HD).trans x5⟩
      have HE := hide hlen
      clear HC HP HD hE hS hO x5 hlen
      go_wp2_with fail
      refine bodyPost_ret (results_tmp rfl _ _ _) rfl ?_
      exact ⟨ag, cg, E, by rw [unhide HE]; rfl, unhide HR⟩
    · obtain ⟨mn, mp, mg⟩ := m
      unfold mkV at hr he
      dsimp only at hr he
      have b1 := (Below.refl X'.heap.size X').alloc (Nat.le_refl _) (.cells #[.string mn, .int .i64 mp, .int .i64 mg] 42)
      have k1 := Cls.new X' 42 #[.string mn, .int .i64 mp, .int .i64 mg]
      have d0 := k1.cell 0
      have d1 := k1.cell 1
      have d2 := k1.cell 2
      simp only [List.getElem?_toArray, List.getElem?_cons_zero, List.getElem?_cons_succ] at d0 d1 d2
      have HJ1 := hide (hJ'.on b1)
      have HL1 := hide (leftM_same (b1.block ri hJ'.it.lt.1) (b1.block r hJ'.it.lt.2))
      have HP := hide (And.intro hp hlt)
      clear HI hJ hp hJ' hlt b1 k1
      by_cases hk1 : lo ≤ mp
      · have t1 : decide (lo ≤ mp) = true := decide_eq_true hk1
        by_cases hk2 : mp ≤ hi
        · have t2 : decide (mp ≤ hi) = true := decide_eq_true hk2
          have hin : inM lo hi ⟨mn, mp, mg⟩ = true := by unfold inM; dsimp only; rw [t1, t2]; rfl
          have hgl : (S.filter (inM lo hi)).length ≤ 1099511627776 := by
            have h1 := List.length_filter_le (inM lo hi) S
            have h2 := (unhide HP).1.length_eq
            have h3 := unhide HL
            rw [List.length_append] at h2
            omega
          obtain ⟨v', W', ra, hJ2, hl2⟩ := (unhide HJ1).push (by rw [hri]; exact hrX) hin hgl
          dsimp only at ra
          rw [World.size_alloc] at ra
          have R := hide ra
          have HJ2 := hide hJ2
          have HM2 := hide (hl2.trans (unhide HL1))
          clear hk1 hk2 hin hgl ra hJ2 hl2 HJ1 HL1
          go_wp2_with (at_builtin; refine wpList_append_known rfl _ _ 27 27 rfl _ _ rfl rfl _ _ (unhide R) ?_; clear R)
          go_roundw
          case rel => exact ⟨⟨_, rfl⟩, hide ⟨_, unhide HJ2⟩⟩
          case measure => rw [unhide HM2]; exact (unhide HP).2
        · have t2 : decide (mp ≤ hi) = false := decide_eq_false hk2
          have hin : inM lo hi ⟨mn, mp, mg⟩ = false := by unfold inM; dsimp only; rw [t1, t2]; rfl
          have HJ2 := hide ((unhide HJ1).pass hin)
          clear hk1 hk2 hin HJ1
          go_wp2_with fail
          go_roundw
          case rel => exact ⟨⟨_, rfl⟩, hide ⟨_, unhide HJ2⟩⟩
          case measure => rw [unhide HL1]; exact (unhide HP).2
      · have t1 : decide (lo ≤ mp) = false := decide_eq_false hk1
        have hin : inM lo hi ⟨mn, mp, mg⟩ = false := by unfold inM; dsimp only; rw [t1]; rfl
        have HJ2 := hide ((unhide HJ1).pass hin)
        clear hk1 hin HJ1
        go_wp2_with fail
        go_roundw
        case rel => exact ⟨⟨_, rfl⟩, hide ⟨_, unhide HJ2⟩⟩
        case measure => rw [unhide HL1]; exact (unhide HP).2
set_option maxRecDepth 100000 in
set_option maxHeartbeats 1000000 in
theorem MList_at (g : Nat) (n : Int) (L : List Mk) (X : World) (h : IsMs X g n L) (hL : L.length ≤ 1048576) :
    Calls Try.prog 11 #[.pointer (some ⟨g, 0, none⟩)] X fun y X' => ∃ a c, ∃ E : List Mk, y = .returned (.slice a E.length c) ∧ E.Perm (L.filter (inM 0 n)) ∧ E.Pairwise (fun a b => ltM b a = false) ∧ X'.ownsRow X.heap.size 42 3 (.slice a E.length c) E.length (mksV E) ∧ Below X.heap.size X X' := by
  have H1 := hide (MLen_at g n L X h)
  have H2 := hide fun (Y : World) (hY : Below X.heap.size X Y) => MBtw_at g n L 0 n Y (h.below hY (Nat.le_refl _)) hL
  clear h hL
  go_enter Try.func11, Try.ntmps11
  go_wp2_with fail
  refine (unhide H1).mono ?_
  rintro y w1 ⟨rfl, x1⟩
  dsimp only
  have HX := hide x1
  have HC := hide (unhide H2 w1 x1)
  clear H1 H2 x1
  go_wp2_with fail
  refine (unhide HC).mono ?_
  rintro y w2 ⟨a, c, E, rfl, e1, e2, e3, x2⟩
  dsimp only
  have HR := hide (And.intro e1 (And.intro e2 (And.intro (rowD_base e3 (unhide HX).size) ((unhide HX).trans (x2.mono (unhide HX).size)))))
  clear HC HX e1 e2 e3 x2
  go_wp2_with fail
  refine bodyPost_ret (results_tmp rfl _ _ _) rfl ?_
  exact ⟨a, c, E, rfl, unhide HR⟩
end Go.Proofs.Ytfllomlighlejaa
