/- Layer 16: ranges sorted; Over, List (Mkk's text, turned). · Layer 16: Cover: pieces, plain and in memory. · Layer 16: Cover. -/
import Derived.Test.YtifpjdodignflaaRp30
import Derived.Test.YtifpjdodignflaaRp31
import Derived.Shelf.SlSortCmp.NoneTotal
import Derived.BigQuiet

section
namespace Go.Proofs.Ytifpjdodignflaa
open Go.ChangeShapes Go.WideShapes Go.ChangeAt Go.RowKit
attribute [local go_sem] Oper.semAt_some

open Go.Sort in
theorem swoG : SWO (ltOf cmpG) where
  irrefl x := by show decide (cmpG x x < 0) = false; rw [cmpG_neg]; exact ltG_irrefl x
  trans x y z h1 h2 := by
    change decide (cmpG x y < 0) = true at h1
    change decide (cmpG y z < 0) = true at h2
    show decide (cmpG x z < 0) = true
    rw [cmpG_neg] at *
    exact ltG_trans h1 h2
  ntrans x y z h1 h2 := by
    change decide (cmpG x y < 0) = false at h1
    change decide (cmpG y z < 0) = false at h2
    show decide (cmpG x z < 0) = false
    rw [cmpG_neg] at *
    exact ltG_ntrans h1 h2
theorem sorted_pw {d' : Array Rg} (h : Go.Sort.SortedIn (ltOf cmpG) 0 d'.size d') : d'.toList.Pairwise fun a b => ltG b a = false := by
  rw [List.pairwise_iff_getElem]
  intro i j hi hj hij
  have := h i j (Nat.zero_le _) hij (by simpa using hj)
  change decide (cmpG d'[j]! d'[i]! < 0) = false at this
  rw [cmpG_neg] at this
  have e1 : d'[j]! = d'.toList[j] := by rw [getElem!_pos d' j (by simpa using hj)]; simp
  have e2 : d'[i]! = d'.toList[i] := by rw [getElem!_pos d' i (by simpa using hi)]; simp
  rw [e1, e2] at this
  exact this
open Go.Sort in
set_option maxRecDepth 100000 in
theorem GSortF_at (w : World) (B : Nat) (a : Option Addr) (c : Nat) (l : List Rg) (h : w.ownsRow B 37 5 (.slice a l.length c) l.length (rgsV l)) (hl : l.length ≤ 1048576) (hB : B ≤ w.heap.size) :
    Calls Try.prog 39 #[.slice a l.length c, .func (.func 40) #[] #[]] w fun y w' => y = .returned (.tuple #[]) ∧ ∃ E : List Rg, E.Perm l ∧ E.Pairwise (fun a b => ltG b a = false) ∧ w'.ownsRow B 37 5 (.slice a l.length c) l.length (rgsV E) ∧ Go.RowKit.Below B w w' := by
  have eg : ∀ args w, (callFunc 40 args).run Try.prog w = .ok (.enter 40 args) w := enters_of Try.func40 (by kernel_rfl) rfl
  by_cases h0 : l = []
  · subst h0
    have hcon := AnyF.slices_SortFunc_none Try.sortRg a c (.func (.func 40) #[] #[]) w
    change Calls Try.prog 39 _ _ _ at hcon
    refine hcon.mono fun y w' ⟨e, e2⟩ => ?_
    subst e2
    exact ⟨e, [], List.Perm.refl _, List.Pairwise.nil, h, Go.RowKit.Below.refl _ _⟩
  · obtain ⟨g, c', e, _, hlt⟩ := h.form (List.length_pos_iff.2 h0)
    cases e
    have hH := own_holdsK rgL 5 rgL_len (by decide) (l := l) h
    have hcmp : CmpLays Try.prog 40 #[] rgL 5 cmpG g 0 l.toArray.size w := fun _ _ _ _ x y => GCmp_at x y _
    have hcon := AnyQ.slices_SortFunc Try.sortRg 5 Try.isAgg37 Try.sizeOf37 rgL rgL_len (fun x v hv => by simp [rgL] at hv; rcases hv with rfl | rfl | rfl | rfl | rfl <;> rfl) cmpG swoG 40 #[] g 0 c l.toArray w eg hcmp hH hlt (by simp; omega)
    change Calls Try.prog 39 _ _ _ at hcon
    rw [List.size_toArray] at hcon
    refine hcon.mono fun y w' ⟨e, d', n, os, hp, hs, e2⟩ => ⟨e, d'.toList, ?_, ?_, ?_⟩
    · have := hp.2.2
      rw [Array.extract_eq_self_of_le (by rw [hp.1]; simp), Array.extract_eq_self_of_le (by simp)] at this
      simpa using this
    · have hsz : d'.size = l.length := by rw [hp.1]; simp
      rw [← hsz] at hs
      exact sorted_pw hs
    · subst e2
      have hsz : d'.toList.length = l.length := by rw [Array.length_toList, hp.1]; simp
      have hso := sort_own rgL 5 rgL_len (by decide) (l := l) h d'.toList hsz n os
      exact ⟨hso.1, hso.2.2 B (rowD_block h (G := g) rfl).1 hB⟩
def inG (lo hi : Int) (m : Rg) : Bool := if lo = hi then decide (m.lo ≤ lo) && decide (lo ≤ m.hi) else decide (lo < hi) && decide (m.lo < hi) && decide (lo < m.hi)
set_option maxRecDepth 100000 in
set_option maxHeartbeats 1000000 in
theorem over_at (x : Rg) (lo hi : Int) (w : World) :
    Calls Try.prog 38 #[rgV x, .int .i64 lo, .int .i64 hi] w fun y w' => y = .returned (.bool (inG lo hi x)) ∧ Below w.heap.size w w' := by
  obtain ⟨xn, xl, xh, xs, xe⟩ := x
  have k := Cls.new w 37 #[.string xn, .int .i64 xl, .int .i64 xh, .int .i64 xs, .int .i64 xe]
  have c1 := k.cell 1
  have c2 := k.cell 2
  simp only [List.getElem?_toArray, List.getElem?_cons_zero, List.getElem?_cons_succ] at c1 c2
  have HB := hide ((Below.refl w.heap.size w).alloc (Nat.le_refl _) (.cells #[.string xn, .int .i64 xl, .int .i64 xh, .int .i64 xs, .int .i64 xe] 37))
  clear k
  unfold rgV inG
  dsimp only
  by_cases h : lo = hi
  · subst h
    have t0 : (lo == lo) = true := by simp
    rw [if_pos rfl]
    by_cases h1 : xl ≤ lo
    · have t1 : decide (xl ≤ lo) = true := decide_eq_true h1
      cases t2 : decide (lo ≤ xh) <;> rw [t1] <;> clear h1 <;>
      (go_enter Try.func38, Try.ntmps38
       go_wp2_with fail
       refine bodyPost_ret (results_tmp rfl _ _ _) rfl ⟨by simp, unhide HB⟩)
    · have t1 : decide (xl ≤ lo) = false := decide_eq_false h1
      rw [t1]
      clear h1
      go_enter Try.func38, Try.ntmps38
      go_wp2_with fail
      refine bodyPost_ret (results_tmp rfl _ _ _) rfl ⟨by simp, unhide HB⟩
  · have t0 : (lo == hi) = false := by simpa using h
    rw [if_neg h]
    by_cases h1 : lo < hi
    · have t1 : decide (lo < hi) = true := decide_eq_true h1
      by_cases h2 : xl < hi
      · have t2 : decide (xl < hi) = true := decide_eq_true h2
        cases t3 : decide (lo < xh) <;> rw [t1, t2] <;> clear h h1 h2 <;>
        (go_enter Try.func38, Try.ntmps38
         go_wp2_with fail
         refine bodyPost_ret (results_tmp rfl _ _ _) rfl ⟨by simp, unhide HB⟩)
      · have t2 : decide (xl < hi) = false := decide_eq_false h2
        rw [t1, t2]
        clear h h1 h2
        go_enter Try.func38, Try.ntmps38
        go_wp2_with fail
        refine bodyPost_ret (results_tmp rfl _ _ _) rfl ⟨by simp, unhide HB⟩
    · have t1 : decide (lo < hi) = false := decide_eq_false h1
      rw [t1]
      clear h h1
      go_enter Try.func38, Try.ntmps38
      go_wp2_with fail
      refine bodyPost_ret (results_tmp rfl _ _ _) rfl ⟨by simp, unhide HB⟩
/-- what Over's loop keeps: the iterator (I came out) and the list (of S, what lies between) -/
structure GoJ (X wx : World) (ri bm : Nat) (lo hi : Int) (L I S : List Rg) (v7 : Value) : Prop where
  it : ItG wx ri bm L I
  go : wx.ownsRow X.heap.size 37 5 v7 (S.filter (inG lo hi)).length (rgsV (S.filter (inG lo hi)))
  dd : Below X.heap.size X wx
  nn : X.heap.size ≤ ri
theorem GoJ.on {X wx wy : World} {ri bm : Nat} {lo hi : Int} {L I S : List Rg} {v7 : Value} (h : GoJ X wx ri bm lo hi L I S v7) (hb : Below wx.heap.size wx wy) : GoJ X wy ri bm lo hi L I S v7 :=
  ⟨h.it.below hb (Nat.le_refl _), rowD_below h.go hb (Nat.le_refl _), h.dd.trans (hb.mono h.dd.size), h.nn⟩
theorem GoJ.next {X wx : World} {ri bm : Nat} {lo hi : Int} {L S : List Rg} {v7 : Value} (h : GoJ X wx ri bm lo hi L S S v7) (ty : TypeId) :
    (S.Perm L ∧ (Instr.next (.pointer (some ⟨ri, 0, none⟩)) false ty).run Try.prog wx = .ok (.tuple #[.bool false]) wx) ∨
    ∃ m T X', (S ++ m :: T).Perm L ∧ (Instr.next (.pointer (some ⟨ri, 0, none⟩)) false ty).run Try.prog wx = .ok (.tuple #[.bool true, .string m.n, rgV m]) X' ∧ (Instr.entry (.pointer (some ⟨ri, 0, none⟩))).run Try.prog X' = .ok (.tuple #[.string m.n, rgV m]) X' ∧ GoJ X X' ri bm lo hi L (S ++ [m]) S v7 ∧ leftN X' bm ri < leftN wx bm ri := by
  rcases h.it.next (P := Try.prog) ty with h1 | ⟨m, T, X', p, r, e, i, hs, hk, hl, hb⟩
  · exact .inl h1
  · refine .inr ⟨m, T, X', p, r, e, ⟨i, rowD_on h.go fun G hG => hk G fun eq => ?_, h.dd.trans (hb _ h.nn), h.nn⟩, hl⟩
    obtain ⟨_, c, hc⟩ := rowD_block h.go hG
    obtain ⟨_, _, _, _, _, _, a, _⟩ := h.it.c
    rw [eq, a] at hc; cases hc
theorem GoJ.pass {X wx : World} {ri bm : Nat} {lo hi : Int} {L S : List Rg} {m : Rg} {v7 : Value} (h : GoJ X wx ri bm lo hi L (S ++ [m]) S v7) (hk : inG lo hi m = false) : GoJ X wx ri bm lo hi L (S ++ [m]) (S ++ [m]) v7 := by
  have e : (S ++ [m]).filter (inG lo hi) = S.filter (inG lo hi) := by simp [List.filter_append, hk]
  exact ⟨h.it, by rw [e]; exact h.go, h.dd, h.nn⟩
theorem GoJ.push {X wx : World} {ri bm : Nat} {lo hi : Int} {L S : List Rg} {m : Rg} {v7 : Value} (h : GoJ X wx ri bm lo hi L (S ++ [m]) S v7) (hb : bm < X.heap.size) (hk : inG lo hi m = true) (hl : (S.filter (inG lo hi)).length ≤ 1099511627776) :
    ∃ v' W', (Builtin.append_ #[28, 28] 28 #[v7, .slice (some ⟨wx.heap.size, 0, none⟩) 1 1]).run Try.prog (wx.alloc (.cells #[.string m.n, .int .i64 m.lo, .int .i64 m.hi, .int .i64 m.st, .int .i64 m.en] 37)) = .ok v' W' ∧ GoJ X W' ri bm lo hi L (S ++ [m]) (S ++ [m]) v' ∧ leftN W' bm ri = leftN wx bm ri := by
  obtain ⟨g, c, W', r, ho, hg, bb⟩ := push_rg wx X.heap.size (S.filter (inG lo hi)).length v7 (rgsV (S.filter (inG lo hi))) m.n m.lo m.hi m.st m.en 28 h.go hl h.dd.size
  have hri := h.it.lt
  have e1 : W'.heap[ri]? = wx.heap[ri]? := hg.block ri hri.1 fun e => by
    obtain ⟨_, cur, hcur⟩ := rowD_block h.go e.symm
    obtain ⟨_, _, _, _, _, _, a, _⟩ := h.it.c
    rw [a] at hcur; cases hcur
  have e2 : W'.heap[bm]? = wx.heap[bm]? := bb.block bm hb
  have e : (S ++ [m]).filter (inG lo hi) = S.filter (inG lo hi) ++ [m] := by simp [List.filter_append, hk]
  refine ⟨_, W', r, ⟨h.it.same e1 e2, ?_, h.dd.trans bb, h.nn⟩, leftN_same e1 e2⟩
  rw [e, List.length_append, List.length_singleton, rgsV_app, rgsV_one]
  exact ho
set_option maxRecDepth 100000 in
set_option maxHeartbeats 4000000 in
theorem GOver_at (g : Nat) (n : Int) (L : List Rg) (lo hi : Int) (X : World) (h : IsRs X g n L) (hL : L.length ≤ 1048576) :
    Calls Try.prog 18 #[.pointer (some ⟨g, 0, none⟩), .int .i64 lo, .int .i64 hi] X fun y X' => ∃ a c, ∃ E : List Rg, y = .returned (.slice a E.length c) ∧ E.Perm (L.filter (inG lo hi)) ∧ E.Pairwise (fun a b => ltG b a = false) ∧ X'.ownsRow X.heap.size 37 5 (.slice a E.length c) E.length (rgsV E) ∧ Below X.heap.size X X' := by
  obtain ⟨r, kg, mg⟩ := h.c
  have hrX : r < X.heap.size := mg.lt
  have c1 := kg.cell 1
  simp only [List.getElem?_toArray, List.getElem?_cons_zero, List.getElem?_cons_succ] at c1
  obtain ⟨o, RR, it⟩ := ItG.start (P := Try.prog) X Try.underlying65 mg
  have hj : GoJ X (X.alloc o) X.heap.size r lo hi L [] [] (.slice none 0 0) := ⟨it, World.ownsRow_nil _ _ _ _, (Below.refl _ _).alloc (Nat.le_refl _) o, Nat.le_refl _⟩
  have HJ := hide hj
  have HL := hide hL
  clear h kg mg it hj hL
  go_enter Try.func18, Try.ntmps18
  go_wp2_with fail
  generalize hri : X.heap.size = ri at *
  go_loopw [7, 9] (fun v7 v9 wx => (∃ z, v9 = z) ∧ Hid (∃ S, GoJ X wx ri r lo hi L S S v7)) (fun _ _ wx => leftN wx r ri)
  case atStart => exact ⟨⟨_, rfl⟩, hide ⟨[], unhide HJ⟩⟩
  case round =>
    clear HJ
    obtain ⟨⟨z2, rfl⟩, HI⟩ := hrel
    obtain ⟨S, hJ⟩ := unhide HI
    rcases hJ.next 0 with ⟨hp, hr⟩ | ⟨m, T, X', hp, hr, he, hJ', hlt⟩
    · obtain ⟨ag, cg, hv7, _⟩ := rowD_form hJ.go
      subst hv7
      have hgl : (S.filter (inG lo hi)).length ≤ 1048576 := by
        have h1 := List.length_filter_le (inG lo hi) S
        have h2 := hp.length_eq
        have h3 := unhide HL
        omega
      have HC := hide (GSortF_at wr X.heap.size ag cg (S.filter (inG lo hi)) hJ.go hgl hJ.dd.size)
      have HP := hide (hp.filter (inG lo hi))
      have HD := hide hJ.dd
      clear HI hJ hp hgl
      go_wp2_with fail
      refine (unhide HC).mono ?_
      rintro y w5 ⟨rfl, E, hE, hS, hO, x5⟩
      dsimp only
      have hlen := hE.length_eq
      have HR : Hid (E.Perm (L.filter (inG lo hi)) ∧ E.Pairwise (fun a b => ltG b a = false) ∧ w5.ownsRow X.heap.size 37 5 (.slice ag E.length cg) E.length (rgsV E) ∧ Below X.heap.size X w5) := hide ⟨hE.trans (unhide HP), hS, by rw [hlen]; exact hO, (unhide HD).trans x5⟩
      have HE := hide hlen
      clear HC HP HD hE hS hO x5 hlen
      go_wp2_with fail
      refine bodyPost_ret (results_tmp rfl _ _ _) rfl ?_
      exact ⟨ag, cg, E, by rw [unhide HE]; rfl, unhide HR⟩
    · obtain ⟨mn, ml, mh, ms, me⟩ := m
      have HOv := hide fun (Y : World) => over_at ⟨mn, ml, mh, ms, me⟩ lo hi Y
      unfold rgV at hr he HOv
      dsimp only at hr he
      have b1 := (Below.refl X'.heap.size X').alloc (Nat.le_refl _) (.cells #[.string mn, .int .i64 ml, .int .i64 mh, .int .i64 ms, .int .i64 me] 37)
      have k1 := Cls.new X' 37 #[.string mn, .int .i64 ml, .int .i64 mh, .int .i64 ms, .int .i64 me]
      have HK1 := hide k1
      have d0 := k1.cell 0
      have d1 := k1.cell 1
      have d2 := k1.cell 2
      have d3 := k1.cell 3
      have d4 := k1.cell 4
      simp only [List.getElem?_toArray, List.getElem?_cons_zero, List.getElem?_cons_succ] at d0 d1 d2 d3 d4
      have HJ1 := hide (hJ'.on b1)
      have HL1 := hide (leftN_same (b1.block ri hJ'.it.lt.1) (b1.block r hJ'.it.lt.2))
      have HP := hide (And.intro hp hlt)
      clear HI hJ hp hJ' hlt b1 k1
      have HO1 := hide (unhide HOv (X'.alloc (.cells #[.string mn, .int .i64 ml, .int .i64 mh, .int .i64 ms, .int .i64 me] 37)))
      clear HOv
      go_upto_region 7 with fail
      generalize X'.alloc (.cells #[.string mn, .int .i64 ml, .int .i64 mh, .int .i64 ms, .int .i64 me] 37) = w1 at *
      generalize X'.heap.size = bx at *
      cases hk : inG lo hi ⟨mn, ml, mh, ms, me⟩ with
      | true =>
        rw [hk] at HO1
        go_wp2_with fail
        refine (unhide HO1).mono ?_
        rintro y w2 ⟨rfl, x2⟩
        dsimp only
        have hJ2' := (unhide HJ1).on x2
        have HL2 := hide ((leftN_same (x2.block ri (unhide HJ1).it.lt.1) (x2.block r (unhide HJ1).it.lt.2)).trans (unhide HL1))
        have k2 := (unhide HK1).below x2 (unhide HK1).lt
        have e0 := k2.cell 0
        have e1 := k2.cell 1
        have e2 := k2.cell 2
        have e3 := k2.cell 3
        have e4 := k2.cell 4
        simp only [List.getElem?_toArray, List.getElem?_cons_zero, List.getElem?_cons_succ] at e0 e1 e2 e3 e4
        have hgl : (S.filter (inG lo hi)).length ≤ 1099511627776 := by
          have h1 := List.length_filter_le (inG lo hi) S
          have h2 := (unhide HP).1.length_eq
          have h3 := unhide HL
          rw [List.length_append] at h2
          omega
        obtain ⟨v', W', ra, hJ2, hl2⟩ := hJ2'.push (by rw [hri]; exact hrX) hk hgl
        dsimp only at ra
        have R := hide ra
        have HJ2 := hide hJ2
        have HM2 := hide (hl2.trans (unhide HL2))
        clear hgl ra hJ2 hl2 HJ1 HL1 HL2 HO1 hk HK1 k2 x2 hJ2' d0 d1 d2 d3 d4
        go_wp2_with (at_builtin; refine wpList_append_known rfl _ _ 28 28 rfl _ _ rfl rfl _ _ (unhide R) ?_; clear R)
        go_roundw
        case rel => exact ⟨⟨_, rfl⟩, hide ⟨_, unhide HJ2⟩⟩
        case measure => rw [unhide HM2]; exact (unhide HP).2
      | false =>
        rw [hk] at HO1
        go_wp2_with fail
        refine (unhide HO1).mono ?_
        rintro y w2 ⟨rfl, x2⟩
        dsimp only
        have HJ2 := hide (((unhide HJ1).on x2).pass hk)
        have HL2 := hide ((leftN_same (x2.block ri (unhide HJ1).it.lt.1) (x2.block r (unhide HJ1).it.lt.2)).trans (unhide HL1))
        clear HJ1 HL1 HO1 hk HK1 x2 d0 d1 d2 d3 d4
        go_wp2_with fail
        go_roundw
        case rel => exact ⟨⟨_, rfl⟩, hide ⟨_, unhide HJ2⟩⟩
        case measure => rw [unhide HL2]; exact (unhide HP).2
set_option maxRecDepth 100000 in
set_option maxHeartbeats 1000000 in
theorem GList_at (g : Nat) (n : Int) (L : List Rg) (X : World) (h : IsRs X g n L) (hL : L.length ≤ 1048576) :
    Calls Try.prog 13 #[.pointer (some ⟨g, 0, none⟩)] X fun y X' => ∃ a c, ∃ E : List Rg, y = .returned (.slice a E.length c) ∧ E.Perm (L.filter (inG 0 n)) ∧ E.Pairwise (fun a b => ltG b a = false) ∧ X'.ownsRow X.heap.size 37 5 (.slice a E.length c) E.length (rgsV E) ∧ Below X.heap.size X X' := by
  have H1 := hide (GLen_at g n L X h)
  have H2 := hide fun (Y : World) (hY : Below X.heap.size X Y) => GOver_at g n L 0 n Y (h.below hY (Nat.le_refl _)) hL
  clear h hL
  go_enter Try.func13, Try.ntmps13
  go_wp2_with fail
  refine (unhide H1).mono ?_
  rintro y w1 ⟨rfl, x1⟩
  dsimp only
  have HX := hide x1
  have HC := hide (unhide H2 w1 x1)
  clear H1 H2 x1
  go_wp2_with fail
  refine (unhide HC).mono ?_
  rintro y w2 ⟨a, c, E, rfl, e1, e2, e3, x2⟩
  dsimp only
  have HR := hide (And.intro e1 (And.intro e2 (And.intro (rowD_base e3 (unhide HX).size) ((unhide HX).trans (x2.mono (unhide HX).size)))))
  clear HC HX e1 e2 e3 x2
  go_wp2_with fail
  refine bodyPost_ret (results_tmp rfl _ _ _) rfl ?_
  exact ⟨a, c, E, rfl, unhide HR⟩
end Go.Proofs.Ytifpjdodignflaa
end

section
namespace Go.Proofs.Ytifpjdodignflaa
open Go.ChangeShapes Go.WideShapes Go.ChangeAt Go.RowKit
attribute [local go_sem] Oper.semAt_some

/-- one more range, covered -/
def covS (q : List (Int × Int)) (x : Rg) : List (Int × Int) := match q.getLast? with
  | none => [(x.lo, x.hi)]
  | some p => if p.2 < x.lo then q ++ [(x.lo, x.hi)] else q.dropLast ++ [(p.1, max p.2 x.hi)]
def covL (E : List Rg) : List (Int × Int) := E.foldl covS []
theorem covS_nil (x : Rg) : covS [] x = [(x.lo, x.hi)] := rfl
theorem covS_snoc (q : List (Int × Int)) (u v : Int) (x : Rg) : covS (q ++ [(u, v)]) x = if v < x.lo then q ++ [(u, v)] ++ [(x.lo, x.hi)] else q ++ [(u, max v x.hi)] := by
  unfold covS
  simp
theorem covS_len (q : List (Int × Int)) (x : Rg) : (covS q x).length ≤ q.length + 1 := by
  by_cases h : q = []
  · subst h; simp [covS]
  · obtain ⟨e, ⟨u, v⟩, rfl⟩ : ∃ e p, q = e ++ [p] := ⟨q.dropLast, q.getLast h, (List.dropLast_concat_getLast h).symm⟩
    rw [covS_snoc]
    split <;> simp
theorem cov_take {E : List Rg} {i : Nat} (hi : i < E.length) : (E.take (i + 1)).foldl covS [] = covS ((E.take i).foldl covS []) (E.getD i rgZ) := by
  rw [List.take_add_one, List.foldl_append]
  simp [hi]
theorem cov_len : ∀ (E : List Rg) (q : List (Int × Int)), (E.foldl covS q).length ≤ q.length + E.length
  | [], q => by simp
  | x :: E, q => by
    have h1 := cov_len E (covS q x)
    have h2 := covS_len q x
    simp only [List.foldl_cons, List.length_cons]
    omega
/-- a piece's two cells -/
def htL (p : Int × Int) : List Value := [.int .i64 p.1, .int .i64 p.2]
def hitsV (l : List (Int × Int)) : List Value := l.flatMap htL
theorem hitsV_app (a b : List (Int × Int)) : hitsV (a ++ b) = hitsV a ++ hitsV b := by simp [hitsV]
theorem hitsV_one (x : Int × Int) : hitsV [x] = htL x := by simp [hitsV]
theorem hitsV_len (l : List (Int × Int)) : (hitsV l).length = l.length * 2 := flat_len htL 2 (fun _ => rfl) l
theorem hitsV_last (d : List (Int × Int)) (x : Int × Int) : (hitsV (d ++ [x]))[d.length * 2]? = some (.int .i64 x.1) ∧ (hitsV (d ++ [x]))[d.length * 2 + 1]? = some (.int .i64 x.2) := by
  have hl := hitsV_len d
  rw [hitsV_app, hitsV_one]
  refine ⟨?_, ?_⟩
  · rw [List.getElem?_append_right (by omega), hl, Nat.sub_self]; rfl
  · rw [List.getElem?_append_right (by omega), hl, show d.length * 2 + 1 - d.length * 2 = 1 by omega]; rfl
theorem hitsV_set (d : List (Int × Int)) (u v n : Int) : (hitsV (d ++ [(u, v)])).set (d.length * 2 + 1) (.int .i64 n) = hitsV (d ++ [(u, n)]) := by
  rw [hitsV_app, hitsV_app, hitsV_one, hitsV_one, List.set_append_right _ _ (by rw [hitsV_len]; omega), hitsV_len, show d.length * 2 + 1 - d.length * 2 = 1 by omega]
  rfl
theorem hitsV_get : ∀ (q : List (Int × Int)) (k j : Nat), k < q.length → j < 2 → (hitsV q)[k * 2 + j]? = (htL (q.getD k (0, 0)))[j]?
  | [], k, _, hk, _ => absurd hk (by simp)
  | t :: ts, 0, j, _, hj => by
    rw [hitsV, List.flatMap_cons, Nat.zero_mul, Nat.zero_add, List.getElem?_append_left (by simpa [htL] using hj)]; rfl
  | t :: ts, k + 1, j, hk, hj => by
    have ih := hitsV_get ts k j (by simpa using hk) hj
    rw [hitsV, List.flatMap_cons, List.getElem?_append_right (by simp [htL]; omega), show (k + 1) * 2 + j - (htL t).length = k * 2 + j by simp [htL]; omega]
    simpa [hitsV] using ih
set_option maxRecDepth 100000 in
theorem info_ht : ∃ i, Try.prog.info? 59 = some i ∧ i.zero = some (.agg #[.int .i64 0, .int .i64 0]) ∧ i.size = 2 ∧ i.bytes = 16 := by
  refine ⟨_, rfl, ?_, ?_, ?_⟩ <;> rfl
/-- one more piece -/
theorem push_ht (W : World) (B n : Nat) (v : Value) (xs : List Value) (a b : Int) (ty : TypeId) (h : W.ownsRow B 59 2 v n xs) (hn : n ≤ 1099511627776) (hB : B ≤ W.heap.size) :
    ∃ g k W', (Builtin.append_ #[56, 56] ty #[v, .slice (some ⟨W.heap.size, 0, none⟩) 1 1]).run Try.prog (W.alloc (.cells #[.int .i64 a, .int .i64 b] 59)) = .ok (.slice (some ⟨g, 0, none⟩) (n + 1) k) W' ∧
      W'.ownsRow B 59 2 (.slice (some ⟨g, 0, none⟩) (n + 1) k) (n + 1) (xs ++ [.int .i64 a, .int .i64 b]) ∧ W.grownBy W' v.ownBlock ∧ Below B W W' := by
  obtain ⟨i, hi, hz, hs, hby⟩ := info_ht
  have hr := World.ownsRow.alloc h (.cells #[.int .i64 a, .int .i64 b] 59)
  have k0 := Cls.new W 59 #[.int .i64 a, .int .i64 b]
  have c0 := k0.cell 0
  have c1 := k0.cell 1
  simp only [List.getElem?_toArray, List.getElem?_cons_zero, List.getElem?_cons_succ] at c0 c1
  obtain ⟨g, k, W', hrun, ho, hg, _, _⟩ := run_append_lies (P := Try.prog) (W.alloc (.cells #[.int .i64 a, .int .i64 b] 59)) 56 ty B 59 i (.agg #[.int .i64 0, .int .i64 0]) 2 16 Try.underlying56 hi hz hs hby rfl (by decide)
    v n xs hr ⟨W.heap.size, 0, none⟩ 1 1 [.int .i64 a, .int .i64 b] rfl
    (fun j u hj => by
      match j with
      | 0 => simp at hj; subst hj; rw [Addr.add_lit]; exact c0
      | 1 => simp at hj; subst hj; rw [Addr.add_lit]; exact c1
      | j + 2 => simp at hj)
    (fun u hu => by simp at hu; rcases hu with rfl | rfl <;> rfl) (by decide) (by unfold maxLen; omega) (by omega) (by simp; omega) _ rfl
  have ha := World.grownBy_alloc W (.cells #[.int .i64 a, .int .i64 b] 59) none
  refine ⟨g, k, W', hrun, ho, ⟨hg.os.trans ha.os, hg.tape.trans ha.tape, hg.output.trans ha.output, Nat.le_trans ha.size hg.size, fun k hk hne => ?_⟩, ((Below.refl B W).alloc hB _).grown hg (by simp; omega) (fun k hk => (hr.lt k hk).1)⟩
  exact (hg.block k (Nat.lt_of_lt_of_le hk ha.size) hne).trans (ha.block k hk (by simp))
theorem typ_apart {X : World} {B1 B2 s1 s2 n1 n2 g : Nat} {t1 t2 : TypeId} {v1 v2 : Value} {x1 x2 : List Value} (h1 : X.ownsRow B1 t1 s1 v1 n1 x1) (h2 : X.ownsRow B2 t2 s2 v2 n2 x2) (ht : t1 ≠ t2) (e1 : v1.ownBlock = some g) (e2 : v2.ownBlock = some g) : False := by
  obtain ⟨_, c1, k1⟩ := rowD_block h1 e1
  obtain ⟨_, c2, k2⟩ := rowD_block h2 e2
  rw [k1] at k2
  cases k2
  exact ht rfl
/-- what Cover's loop keeps: the list, and the pieces so far -/
structure CvJ (X wx : World) (a : Option Addr) (c : Nat) (E : List Rg) (q : List (Int × Int)) (v : Value) : Prop where
  e : wx.ownsRow X.heap.size 37 5 (.slice a E.length c) E.length (rgsV E)
  h : wx.ownsRow X.heap.size 59 2 v q.length (hitsV q)
  d : Below X.heap.size X wx
theorem CvJ.on {X wx wy : World} {a : Option Addr} {c : Nat} {E : List Rg} {q : List (Int × Int)} {v : Value} (h : CvJ X wx a c E q v) (hb : Below wx.heap.size wx wy) : CvJ X wy a c E q v :=
  ⟨rowD_below h.e hb (Nat.le_refl _), rowD_below h.h hb (Nat.le_refl _), h.d.trans (hb.mono h.d.size)⟩
theorem CvJ.push {X wx : World} {a : Option Addr} {c : Nat} {E : List Rg} {q : List (Int × Int)} {v : Value} (h : CvJ X wx a c E q v) (hq : q.length ≤ 1099511627776) (lo hi : Int) :
    ∃ v' W', (Builtin.append_ #[56, 56] 56 #[v, .slice (some ⟨wx.heap.size, 0, none⟩) 1 1]).run Try.prog (wx.alloc (.cells #[.int .i64 lo, .int .i64 hi] 59)) = .ok v' W' ∧ CvJ X W' a c E (q ++ [(lo, hi)]) v' := by
  obtain ⟨g, k, W', r, ho, hg, bb⟩ := push_ht wx X.heap.size q.length v (hitsV q) lo hi 56 h.h hq h.d.size
  refine ⟨_, W', r, rowD_on h.e fun G hG => hg.block G ?_ fun e => typ_apart h.e h.h (by decide) hG e.symm, ?_, h.d.trans bb⟩
  · obtain ⟨_, cur, hcur⟩ := rowD_block h.e hG
    exact (Array.getElem?_eq_some_iff.1 hcur).1
  · rw [List.length_append, List.length_singleton, hitsV_app, hitsV_one]; exact ho
theorem CvJ.cells {X wx : World} {a : Option Addr} {c : Nat} {E : List Rg} {q : List (Int × Int)} {x y : Int} {v : Value} (h : CvJ X wx a c E (q ++ [(x, y)]) v) :
    ∃ g k, v = .slice (some ⟨g, 0, none⟩) (q.length + 1) k ∧ wx.cell? ⟨g, q.length * 2 + 1, none⟩ = some (.int .i64 y) ∧ wx.frozen? ⟨g, q.length * 2 + 1, none⟩ = false ∧ ∀ n, CvJ X (wx.setCell ⟨g, q.length * 2 + 1, none⟩ (.int .i64 n)) a c E (q ++ [(x, n)]) v := by
  have hh := h.h
  rw [List.length_append, List.length_singleton] at hh
  obtain ⟨g, k, rfl, hg⟩ := rowD_some hh (by omega)
  obtain ⟨c1, f1⟩ := rowD_cell hh (hitsV_last q (x, y)).2
  refine ⟨g, k, rfl, c1, f1, fun n => ⟨rowD_on h.e fun G hG => Below.heap_setCell _ _ _ G fun e => typ_apart h.e hh (by decide) hG (by rw [e]; rfl), ?_, h.d.setCell (p := ⟨g, q.length * 2 + 1, none⟩) hg _⟩⟩
  have := rowD_set hh (q.length * 2 + 1) (.int .i64 n)
  rw [hitsV_set] at this
  rw [List.length_append, List.length_singleton]
  exact this
end Go.Proofs.Ytifpjdodignflaa
end

section
namespace Go.Proofs.Ytifpjdodignflaa
open Go.ChangeShapes Go.WideShapes Go.ChangeAt Go.RowKit
attribute [local go_sem] Oper.semAt_some

set_option maxRecDepth 100000 in
set_option maxHeartbeats 4000000 in
theorem GCov_at (g : Nat) (n : Int) (L : List Rg) (X : World) (h : IsRs X g n L) (hL : L.length ≤ 1048576) :
    Calls Try.prog 17 #[.pointer (some ⟨g, 0, none⟩)] X fun y X' => ∃ a c, ∃ E : List Rg, y = .returned (.slice a (covL E).length c) ∧ E.Perm (L.filter (inG 0 n)) ∧ E.Pairwise (fun a b => ltG b a = false) ∧ X'.ownsRow X.heap.size 59 2 (.slice a (covL E).length c) (covL E).length (hitsV (covL E)) ∧ Below X.heap.size X X' := by
  have HC := hide (GList_at g n L X h hL)
  have HL := hide hL
  clear h hL
  go_enter Try.func17, Try.ntmps17
  go_wp2_with fail
  refine (unhide HC).mono ?_
  rintro y w1 ⟨ae, ce, E, rfl, hE, hS, hO, x1⟩
  dsimp only
  have HP := hide (And.intro hE hS)
  have hj : CvJ X w1 ae ce E [] (.slice none 0 0) := ⟨hO, World.ownsRow_nil _ _ _ _, x1⟩
  have HJ := hide hj
  have hEl : E.length ≤ 1048576 := by
    have h1 := hE.length_eq
    have h2 := List.length_filter_le (inG 0 n) L
    have h3 := unhide HL
    omega
  obtain ⟨N, hN⟩ : ∃ N, N = E.length := ⟨_, rfl⟩
  rw [← hN] at hEl ⊢
  have HN := hide hN
  clear HC HL hE hS hO x1 hj hN
  go_wp2_with fail
  go_loopw [3, 5, 6, 10] (fun v3 v5 v6 v10 wx => ((∃ z, v5 = z) ∧ (∃ z, v6 = z)) ∧ ∃ i : Nat, v10 = .int .i64 (i : Int) ∧ i ≤ N ∧ Hid (CvJ X wx ae ce E ((E.take i).foldl covS []) v3)) (fun _ _ _ v10 _ => N - (intOf v10).toNat)
  case atStart => exact ⟨⟨⟨_, rfl⟩, ⟨_, rfl⟩⟩, 0, rfl, Nat.zero_le _, HJ⟩
  case round =>
    clear HJ
    obtain ⟨⟨⟨z1, rfl⟩, ⟨z2, rfl⟩⟩, i, rfl, hi, HJ⟩ := hrel
    by_cases hlt : i < N
    · have t1 : decide ((i : Int) < (N : Int)) = true := decide_eq_true (by omega)
      have hlt' : i < E.length := by rw [← unhide HN]; exact hlt
      have hql : ((E.take i).foldl covS []).length ≤ 1048576 := by
        have h1 := cov_len (E.take i) []
        rw [List.length_take] at h1
        simp only [List.length_nil] at h1
        omega
      have hst := cov_take hlt'
      obtain ⟨_, _, e1, ie, _⟩ := own_isRl (unhide HJ).e
      obtain ⟨eg, eo, ha, heg, i0, i1, i2, i3, i4⟩ := ie.five hlt'
      injection e1 with e11 e12 e13
      subst e11
      subst ha
      generalize E.getD i rgZ = m at *
      obtain ⟨mn, ml, mh, ms, me⟩ := m
      dsimp only at i0 i1 i2 i3 i4
      have hjn := (unhide HJ).on ((Below.refl wr.heap.size wr).alloc (Nat.le_refl _) (.cells #[.string mn, .int .i64 ml, .int .i64 mh, .int .i64 ms, .int .i64 me] 37))
      have k1 := Cls.new wr 37 #[.string mn, .int .i64 ml, .int .i64 mh, .int .i64 ms, .int .i64 me]
      have HJ1 := hide hjn
      have HK1 := hide k1
      have hz := hlt'
      have HST := hide hst
      have HQL := hide hql
      clear HJ hst hql hlt' ie e12 e13 hjn k1 hz
      generalize (E.take i).foldl covS [] = q at *
      obtain ⟨av, cv, hv, _⟩ := rowD_form (unhide HJ1).h
      subst hv
      go_upto_region 5 with fail
      clear i0 i1 i2 i3 i4
      generalize wr.alloc (.cells #[.string mn, .int .i64 ml, .int .i64 mh, .int .i64 ms, .int .i64 me] 37) = w2 at *
      generalize wr.heap.size = bx at *
      have c1 := (unhide HK1).cell 1
      have c2 := (unhide HK1).cell 2
      simp only [List.getElem?_toArray, List.getElem?_cons_zero, List.getElem?_cons_succ] at c1 c2
      by_cases hq : q = []
      · subst hq
        rw [covS_nil] at HST
        rw [List.length_nil] at HJ1 ⊢
        go_upto_region 6 with fail
        go_quiet (fail)
        obtain ⟨v', W', ra, hj2⟩ := ((unhide HJ1).on (below_drewN (Below.refl _ _) nq)).push (Nat.zero_le _) ml mh
        have R := hide ra
        have HJ2 := hide hj2
        clear ra hj2 HJ1
        go_upto_region 7 with fail
        go_wp2_with (at_builtin; refine wpList_append_known rfl _ _ 56 56 rfl _ _ rfl rfl _ _ (unhide R) ?_; clear R)
        go_roundw
        case rel => exact ⟨⟨⟨_, rfl⟩, ⟨_, rfl⟩⟩, i + 1, by go_num, hlt, hide (by rw [unhide HST]; exact unhide HJ2)⟩
        case measure => simp [intOf]; omega
      · obtain ⟨e, ⟨u, v⟩, rfl⟩ : ∃ e p, q = e ++ [p] := ⟨q.dropLast, q.getLast hq, (List.dropLast_concat_getLast hq).symm⟩
        rw [covS_snoc] at HST
        have hcl := (unhide HJ1).cells
        have hql := unhide HQL
        have hm1 : e.length + 1 ≤ 1048576 := by simpa using hql
        obtain ⟨hg, hk, hv, b1, f1, hset⟩ := hcl
        injection hv with hv1 hv2 hv3
        subst hv1 hv3
        rw [hv2] at HJ1 ⊢
        have hm : e.length ≤ 1073741824 := by omega
        have hqs : (e ++ [(u, v)]).length ≤ 1099511627776 := by rw [hv2]; omega
        have HQS := hide hqs
        have hlast := last_arith hm
        have HSet := hide hset
        clear hql hv2 hm1 hset HQL hqs hq
        generalize hem : e.length = m at *
        have HEM := hide hem
        clear hem
        obtain ⟨e1, e2, e3, t9, t9', hltm⟩ := hlast
        have t8 : decide ((m : Int) < 0) = false := decide_eq_false (Int.not_lt.2 (Int.natCast_nonneg m))
        have hl3 : (m : Int) < (m : Int) + 1 := Int.lt_succ _
        clear e1 e3 t9 t9'
        by_cases hvl : v < ml
        · have t7 : decide (v < ml) = true := decide_eq_true hvl
          rw [if_pos hvl] at HST
          clear hvl HSet
          go_upto_region 6 with fail
          go_quiet (fail)
          obtain ⟨v', W', ra, hj2⟩ := ((unhide HJ1).on (below_drewN (Below.refl _ _) nq)).push (unhide HQS) ml mh
          have R := hide ra
          have HJ2 := hide hj2
          clear ra hj2 HJ1 b1 f1
          go_upto_region 7 with fail
          go_wp2_with (at_builtin; refine wpList_append_known rfl _ _ 56 56 rfl _ _ rfl rfl _ _ (unhide R) ?_; clear R)
          go_roundw
          case rel => exact ⟨⟨⟨_, rfl⟩, ⟨_, rfl⟩⟩, i + 1, by go_num, hlt, hide (by rw [unhide HST]; exact unhide HJ2)⟩
          case measure => simp [intOf]; omega
        · have t7 : decide (v < ml) = false := decide_eq_false hvl
          rw [if_neg hvl] at HST
          clear hvl
          go_upto_region 6 with fail
          go_quiet (fail)
          go_upto_region 8 with fail
          have hw3 := (unhide HJ1).on ((below_drewN (Below.refl _ _) nq).drew)
          have HS8 : Hid ((w2.drewN nq).drew.cell? ⟨hg, m * 2 + 1, none⟩ = some (.int .i64 v) ∧ (w2.drewN nq).drew.cell? ⟨bx, 2, none⟩ = some (.int .i64 mh)) := hide ⟨b1, c2⟩
          have F1 : (w2.drewN nq).drew.frozen? ⟨hg, m * 2 + 1, none⟩ = false := f1
          obtain ⟨g8, k8, hv8, _, _, hset8⟩ := hw3.cells
          rw [unhide HEM] at hset8 hv8
          have HJ8 := hide hset8
          have HV8 := hide hv8
          clear b1 c1 c2 f1 hw3 HSet HJ1 hset8 hv8
          refine regionL (S := fun z => z.cell? ⟨hg, m * 2 + 1, none⟩ = some (.int .i64 v) ∧ z.cell? ⟨bx, 2, none⟩ = some (.int .i64 mh)) (fun i => i == 12) (by kernel_rfl) ?_
          generalize (w2.drewN nq).drew = w8 at *
          refine anyL_take (i := 0) (v := ?vcv0) rfl (by kernel_rfl) (by kernel_rfl) (by kernel_rfl) (by kernel_rfl) (fun _ _ _ h => h) (Or.inl ⟨by rfl, ?hcv0⟩) (unhide HS8) ?_
          case hcv0 => (intro w hSw; (try dsimp only at hSw); go_simp) <;> with_reducible rfl
          simp only [Act.put, List.getElem_toArray, List.getElem_cons_zero, List.setIfInBounds_toArray, List.set_cons_zero, List.set_cons_succ]
          refine anyL_take (i := 1) (v := ?vcv1) rfl (by kernel_rfl) (by kernel_rfl) (by kernel_rfl) (by kernel_rfl) (fun _ _ _ h => h) (Or.inl ⟨by rfl, ?hcv1⟩) (unhide HS8) ?_
          case hcv1 => (intro w hSw; (try dsimp only at hSw); go_simp) <;> with_reducible rfl
          simp only [Act.put, List.getElem_toArray, List.getElem_cons_zero, List.getElem_cons_succ, List.setIfInBounds_toArray, List.set_cons_zero, List.set_cons_succ]
          refine anyL_take (i := 2) (v := ?vcv2) rfl (by kernel_rfl) (by kernel_rfl) (by kernel_rfl) (by kernel_rfl) (fun _ _ _ h => h) (Or.inl ⟨by rfl, ?hcv2⟩) (unhide HS8) ?_
          case hcv2 => (intro w hSw; (try dsimp only at hSw); go_simp) <;> with_reducible rfl
          simp only [Act.put, List.getElem_toArray, List.getElem_cons_zero, List.getElem_cons_succ, List.setIfInBounds_toArray, List.set_cons_zero, List.set_cons_succ]
          refine anyL_take (i := 3) (v := ?vcv3) rfl (by kernel_rfl) (by kernel_rfl) (by kernel_rfl) (by kernel_rfl) (fun _ _ _ h => h) (Or.inl ⟨by rfl, ?hcv3⟩) (unhide HS8) ?_
          case hcv3 => (intro w hSw; (try dsimp only at hSw); go_simp) <;> with_reducible rfl
          simp only [Act.put, List.getElem_toArray, List.getElem_cons_zero, List.getElem_cons_succ, List.setIfInBounds_toArray, List.set_cons_zero, List.set_cons_succ]
          refine anyL_take (i := 4) (v := ?vcv4) rfl (by kernel_rfl) (by kernel_rfl) (by kernel_rfl) (by kernel_rfl) (fun _ _ _ h => h) (Or.inl ⟨by rfl, ?hcv4⟩) (unhide HS8) ?_
          case hcv4 => (intro w hSw; (try dsimp only at hSw); go_simp) <;> with_reducible rfl
          simp only [Act.put, List.getElem_toArray, List.getElem_cons_zero, List.getElem_cons_succ, List.setIfInBounds_toArray, List.set_cons_zero, List.set_cons_succ]
          refine anyL_take (i := 5) (v := ?vcv5) rfl (by kernel_rfl) (by kernel_rfl) (by kernel_rfl) (by kernel_rfl) (fun _ _ _ h => h) (Or.inl ⟨by rfl, ?hcv5⟩) (unhide HS8) ?_
          case hcv5 => (intro w hSw; (try dsimp only at hSw); go_simp) <;> with_reducible rfl
          simp only [Act.put, List.getElem_toArray, List.getElem_cons_zero, List.getElem_cons_succ, List.setIfInBounds_toArray, List.set_cons_zero, List.set_cons_succ]
          refine anyL_take (i := 6) (v := ?vcv6) rfl (by kernel_rfl) (by kernel_rfl) (by kernel_rfl) (by kernel_rfl) (fun _ _ _ h => h) (Or.inl ⟨by rfl, ?hcv6⟩) (unhide HS8) ?_
          case hcv6 => (intro w hSw; (try dsimp only at hSw); go_simp) <;> with_reducible rfl
          simp only [Act.put, List.getElem_toArray, List.getElem_cons_zero, List.getElem_cons_succ, List.setIfInBounds_toArray, List.set_cons_zero, List.set_cons_succ]
          refine anyL_take (i := 7) (v := ?vcv7) rfl (by kernel_rfl) (by kernel_rfl) (by kernel_rfl) (by kernel_rfl) (fun _ _ _ h => h) (Or.inl ⟨by rfl, ?hcv7⟩) (unhide HS8) ?_
          case hcv7 => (intro w hSw; (try dsimp only at hSw); go_simp) <;> with_reducible rfl
          simp only [Act.put, List.getElem_toArray, List.getElem_cons_zero, List.getElem_cons_succ, List.setIfInBounds_toArray, List.set_cons_zero, List.set_cons_succ]
          refine anyL_take (i := 8) (v := ?vcv8) rfl (by kernel_rfl) (by kernel_rfl) (by kernel_rfl) (by kernel_rfl) (fun _ _ _ h => h) (Or.inl ⟨by rfl, ?hcv8⟩) (unhide HS8) ?_
          case hcv8 => (intro w hSw; (try dsimp only at hSw); go_simp) <;> with_reducible rfl
          simp only [Act.put, List.getElem_toArray, List.getElem_cons_zero, List.getElem_cons_succ, List.setIfInBounds_toArray, List.set_cons_zero, List.set_cons_succ]
          refine anyL_take (i := 9) (v := ?vcv9) rfl (by kernel_rfl) (by kernel_rfl) (by kernel_rfl) (by kernel_rfl) (fun _ _ _ h => h) (Or.inl ⟨by rfl, ?hcv9⟩) (unhide HS8) ?_
          case hcv9 => (intro w hSw; (try dsimp only at hSw); go_simp) <;> with_reducible rfl
          simp only [Act.put, List.getElem_toArray, List.getElem_cons_zero, List.getElem_cons_succ, List.setIfInBounds_toArray, List.set_cons_zero, List.set_cons_succ]
          refine anyL_take (i := 10) (v := ?vcv10) rfl (by kernel_rfl) (by kernel_rfl) (by kernel_rfl) (by kernel_rfl) (fun _ _ _ h => h) (Or.inl ⟨by rfl, ?hcv10⟩) (unhide HS8) ?_
          case hcv10 => (intro w hSw; (try dsimp only at hSw); go_simp) <;> with_reducible rfl
          simp only [Act.put, List.getElem_toArray, List.getElem_cons_zero, List.getElem_cons_succ, List.setIfInBounds_toArray, List.set_cons_zero, List.set_cons_succ]
          refine anyL_take (i := 11) (v := ?vcv11) rfl (by kernel_rfl) (by kernel_rfl) (by kernel_rfl) (by kernel_rfl) (fun _ _ _ h => h) (Or.inl ⟨by rfl, ?hcv11⟩) (unhide HS8) ?_
          case hcv11 => (intro w hSw; (try dsimp only at hSw); go_simp) <;> with_reducible rfl
          simp only [Act.put, List.getElem_toArray, List.getElem_cons_zero, List.getElem_cons_succ, List.setIfInBounds_toArray, List.set_cons_zero, List.set_cons_succ]
          refine anyL_ready (rs := [12]) (by kernel_rfl) (by simp) ?_
          refine AllL.cons rfl (fun K hK => ?_) AllL.nil
          obtain ⟨s1, s2⟩ := unhide HS8
          go_simp
          refine unhide hK _ _ (fun h => by cases h) ?_
          clear hK K
          refine anyL_done (by kernel_rfl) ?_ _
          go_wp2_with fail
          injection unhide HV8 with q1 q2 q3
          injection q1 with q1
          injection q1 with q1
          subst q1
          clear q2 q3
          refine ⟨⟨⟨⟨_, rfl⟩, ⟨_, rfl⟩⟩, i + 1, by go_num, hlt, hide (by rw [unhide HST]; exact unhide HJ8 (max v mh))⟩, ?_⟩
          simp [intOf]; omega
    · obtain rfl : i = N := by omega
      have t1 : decide ((i : Int) < (i : Int)) = false := decide_eq_false (by omega)
      have hta : E.take i = E := by rw [unhide HN]; exact List.take_length
      rw [hta] at HJ
      obtain ⟨av, cv, hv, _⟩ := rowD_form (unhide HJ).h
      subst hv
      have HR : Hid (E.Perm (L.filter (inG 0 n)) ∧ E.Pairwise (fun a b => ltG b a = false) ∧ wr.ownsRow X.heap.size 59 2 (.slice av (covL E).length cv) (covL E).length (hitsV (covL E)) ∧ Below X.heap.size X wr) := hide ⟨(unhide HP).1, (unhide HP).2, (unhide HJ).h, (unhide HJ).d⟩
      clear HJ hta
      change Hid _ at HR
      go_wp2_with fail
      refine bodyPost_ret (results_tmp rfl _ _ _) rfl ?_
      exact ⟨av, cv, E, rfl, unhide HR⟩

end Go.Proofs.Ytifpjdodignflaa
end
