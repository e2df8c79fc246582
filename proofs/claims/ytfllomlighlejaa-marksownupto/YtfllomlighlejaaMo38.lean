/- Layer 15, the document's: Find, without, Between, Same. · Layer 14, plain: passing, operation by operation. · Layer 14: shift's next. · Layer 14: passed: what lies there. · Layer 14: passed. · Layer 14: linked. -/
import Derived.Test.YtfllomlighlejaaMo37
import Derived.RegionTactic
import Derived.Test.YtfllomlighlejaaMo33
import Derived.Scope
import Derived.Test.YtfllomlighlejaaMo31

section
namespace Go.Proofs.Ytfllomlighlejaa
open Go.ChangeShapes Go.WideShapes Go.ChangeAt Go.RowKit
attribute [local go_sem] Oper.semAt_some

/-- the document's Marks, as a value -/
def msV (n : Int) (a : Option Addr) (k c : Nat) : Value := .agg #[.int .i64 n, .slice a k c]
def fdM (s : ByteArray) (l : List Mk) : Int := match atM s l 0 with
  | some (i, _) => (i : Int)
  | none => -1
theorem atM_drop (s : ByteArray) (l : List Mk) {i : Nat} (h : i < l.length) : atM s (l.drop i) i = if s == (l.getD i mkZ).n then some (i, l.getD i mkZ) else atM s (l.drop (i + 1)) (i + 1) := by
  rw [dropM_getD l h]; rfl
set_option maxRecDepth 100000 in
set_option maxHeartbeats 2000000 in
theorem RFind_at (n : Int) (a : Option Addr) (c : Nat) (l : List Mk) (s : ByteArray) (X : World) (h : IsK X a l) (hl : l.length ≤ 1048576) :
    Calls Try.prog 50 #[msV n a l.length c, .string s] X fun y X' => y = .returned (.int .i64 (fdM s l)) ∧ Below X.heap.size X X' := by
  unfold msV
  have b1 := (Below.refl X.heap.size X).alloc (Nat.le_refl _) (.cells #[.int .i64 n, .slice a l.length c] 29)
  have HX := hide b1
  have HK := hide (Cls.new X 29 #[.int .i64 n, .slice a l.length c])
  have HL := hide (h.below b1 (Nat.le_refl _))
  obtain ⟨V, hV⟩ : ∃ V, V = fdM s l := ⟨_, rfl⟩
  rw [← hV]
  have HV := hide hV
  obtain ⟨N, hN⟩ : ∃ N, N = l.length := ⟨_, rfl⟩
  have HN := hide hN
  rw [← hN] at hl HK HX HL ⊢
  clear hN b1 h hV
  go_enter Try.func50, Try.ntmps50
  go_wp2_with fail
  generalize X.alloc (.cells #[.int .i64 n, .slice a N c] 29) = X1 at *
  go_loopw [5] (fun v5 wx => (∃ i : Nat, v5 = .int .i64 (i : Int) ∧ i ≤ N ∧ Hid (atM s (l.drop i) i = atM s l 0)) ∧ Hid (Below X1.heap.size X1 wx)) (fun v5 _ => N - (intOf v5).toNat)
  case atStart => exact ⟨⟨0, rfl, Nat.zero_le _, hide rfl⟩, hide (Below.refl _ _)⟩
  case round =>
    obtain ⟨⟨i, rfl, hi, HI⟩, HB⟩ := hrel
    have kx := (unhide HK).below (unhide HB) (unhide HK).lt
    have c1 := (kx.cell 1).trans rfl
    by_cases hlt : i < N
    · have t1 : decide ((i : Int) < (N : Int)) = true := decide_eq_true (by omega)
      have hlt' : i < l.length := by rw [← unhide HN]; exact hlt
      obtain ⟨eg, eo, ha, heg, e0, _, _⟩ := ((unhide HL).below (unhide HB) (Nat.le_refl _)).three hlt'
      have hI := (atM_drop s l hlt').symm.trans (unhide HI)
      subst ha
      generalize l.getD i mkZ = m at *
      obtain ⟨mn, mp, mg⟩ := m
      dsimp only at e0 hI
      by_cases he : mn = s
      · subst he
        rw [(MapKept.bytes_beq mn mn).2 rfl, if_pos rfl] at hI
        obtain rfl : V = (i : Int) := by rw [unhide HV]; unfold fdM; rw [← hI]
        have HB2 := hide ((unhide HX).trans ((unhide HB).mono (unhide HX).size))
        clear hI HI HB kx HV hlt'
        go_wp2_with fail
        refine bodyPost_ret (results_tmp rfl _ _ _) rfl ⟨rfl, unhide HB2⟩
      · have h1 : (s == mn) = false := by
          cases hc : s == mn with
          | false => rfl
          | true => exact absurd ((MapKept.bytes_beq _ _).1 hc).symm he
        have h2 : ¬ mn.toList = s.toList := fun e => he (ba_toList e)
        have h3 : (mn.toList == s.toList) = false := by simpa using h2
        rw [h1] at hI
        simp only [Bool.false_eq_true, if_false] at hI
        have HI2 := hide hI
        clear hI HI kx he h1 hlt'
        go_wp2_with fail
        go_roundw
        case rel => exact ⟨⟨i + 1, by go_num, hlt, HI2⟩, HB⟩
        case measure => simp [intOf]; omega
    · obtain rfl : i = N := by omega
      have t1 : decide ((i : Int) < (i : Int)) = false := decide_eq_false (by omega)
      have hI := unhide HI
      rw [unhide HN, List.drop_length] at hI
      obtain rfl : V = -1 := by rw [unhide HV]; unfold fdM; rw [← hI]; rfl
      have HB2 := hide ((unhide HX).trans ((unhide HB).mono (unhide HX).size))
      clear hI HI HB kx HV hlt
      go_wp2_with fail
      refine bodyPost_ret (results_tmp rfl _ _ _) rfl ⟨rfl, unhide HB2⟩
/-- without one place -/
def woM (k : Int) : Nat → List Mk → List Mk
  | _, [] => []
  | i, m :: l => if (i : Int) = k then woM k (i + 1) l else m :: woM k (i + 1) l
theorem woM_no (k : Int) : ∀ (i : Nat) (l : List Mk), k < (i : Int) → woM k i l = l
  | _, [], _ => rfl
  | i, m :: l, h => by
    unfold woM
    rw [if_neg (by omega), woM_no k (i + 1) l (by omega)]
theorem woM_at (k : Nat) : ∀ (i : Nat) (l : List Mk), woM ((i + k : Nat) : Int) i l = l.eraseIdx k
  | _, [] => by simp [woM]
  | i, m :: l => by
    unfold woM
    cases k with
    | zero => rw [if_pos (by omega), woM_no _ _ _ (by omega)]; rfl
    | succ k =>
      rw [if_neg (by omega)]
      have := woM_at k (i + 1) l
      rw [show i + 1 + k = i + (k + 1) by omega] at this
      rw [this]; rfl
theorem wo_find (s : ByteArray) (l : List Mk) : woM (fdM s l) 0 l = delM s l := by
  unfold fdM delM
  cases h : atM s l 0 with
  | none => exact woM_no _ _ _ (by decide)
  | some y =>
    obtain ⟨j, y⟩ := y
    have := woM_at j 0 l
    rwa [Nat.zero_add] at this
theorem woM_len (k : Int) : ∀ (i : Nat) (l : List Mk), (woM k i l).length ≤ l.length
  | _, [] => Nat.le_refl _
  | i, m :: l => by
    unfold woM
    have := woM_len k (i + 1) l
    split <;> simp <;> omega
set_option maxRecDepth 100000 in
set_option maxHeartbeats 2000000 in
theorem RWithout_at (a : Option Addr) (c : Nat) (l : List Mk) (k : Int) (X : World) (h : IsK X a l) (hl : l.length ≤ 1048576) :
    Calls Try.prog 51 #[.slice a l.length c, .int .i64 k] X fun y X' => ∃ v, y = .returned v ∧ X'.ownsRow X.heap.size 42 3 v (woM k 0 l).length (mksV (woM k 0 l)) ∧ Below X.heap.size X X' := by
  obtain ⟨R0, hR0⟩ : ∃ R0, R0 = woM k 0 l := ⟨_, rfl⟩
  rw [← hR0]
  have HL := hide h
  have HI0 : Hid (([] : List Mk) ++ woM k 0 (l.drop 0) = R0) := hide (by rw [hR0]; rfl)
  obtain ⟨N, hN⟩ : ∃ N, N = l.length := ⟨_, rfl⟩
  have HN := hide hN
  rw [← hN] at hl ⊢
  clear hN h hR0
  go_enter Try.func51, Try.ntmps51
  go_wp2_with fail
  go_loopw [5, 6] (fun v5 v6 wx => ∃ i : Nat, v6 = .int .i64 (i : Int) ∧ i ≤ N ∧ Hid (∃ q, PuJ X wx v5 q ∧ q.length ≤ i ∧ q ++ woM k i (l.drop i) = R0)) (fun _ v6 _ => N - (intOf v6).toNat)
  case atStart => exact ⟨0, rfl, Nat.zero_le _, hide ⟨[], PuJ.new (Below.refl _ _), Nat.le_refl _, unhide HI0⟩⟩
  case round =>
    clear HI0
    obtain ⟨i, rfl, hi, HI⟩ := hrel
    obtain ⟨q, hJ, hq, hR⟩ := unhide HI
    by_cases hlt : i < N
    · have t1 : decide ((i : Int) < (N : Int)) = true := decide_eq_true (by omega)
      have hlt' : i < l.length := by rw [← unhide HN]; exact hlt
      rw [dropM_getD l hlt'] at hR
      unfold woM at hR
      by_cases hk : (i : Int) = k
      · rw [if_pos hk] at hR
        subst hk
        have HI2 : Hid (∃ q, PuJ X wr u5 q ∧ q.length ≤ i + 1 ∧ q ++ woM (i : Int) (i + 1) (l.drop (i + 1)) = R0) := hide ⟨q, hJ, by omega, hR⟩
        clear HI hJ hq hR hlt'
        go_wp2_with fail
        go_roundw
        case rel => exact ⟨i + 1, by go_num, hlt, HI2⟩
        case measure => simp [intOf]; omega
      · rw [if_neg hk] at hR
        have t2 : ((i : Int) != k) = true := by simpa using hk
        have t2' : ((i : Int) == k) = false := by simpa using hk
        obtain ⟨eg, eo, ha, heg, e0, e1, e2⟩ := ((unhide HL).below hJ.d (Nat.le_refl _)).three hlt'
        subst ha
        obtain ⟨v3, W3, ra, hJ3⟩ := hJ.push (l.getD i mkZ) (by omega)
        generalize l.getD i mkZ = m at *
        obtain ⟨mn, mp, mg⟩ := m
        dsimp only at e0 e1 e2 ra
        have R := hide ra
        have HI2 : Hid (∃ q, PuJ X W3 v3 q ∧ q.length ≤ i + 1 ∧ q ++ woM k (i + 1) (l.drop (i + 1)) = R0) := hide ⟨_, hJ3, by simp; omega, by rw [List.append_assoc]; exact hR⟩
        clear HI hJ hq hR hlt' ra hJ3 hk
        go_wp2_with (at_builtin; refine wpList_append_known rfl _ _ 27 27 rfl _ _ rfl rfl _ _ (unhide R) ?_; clear R)
        go_roundw
        case rel => exact ⟨i + 1, by go_num, hlt, HI2⟩
        case measure => simp [intOf]; omega
    · obtain rfl : i = N := by omega
      have t1 : decide ((i : Int) < (i : Int)) = false := decide_eq_false (by omega)
      rw [unhide HN, List.drop_length] at hR
      unfold woM at hR
      rw [List.append_nil] at hR
      subst hR
      have HO := hide hJ.o
      have HB := hide hJ.d
      clear hJ HI hq hlt
      go_wp2_with fail
      refine bodyPost_ret (results_tmp rfl _ _ _) rfl ?_
      exact ⟨_, rfl, unhide HO, unhide HB⟩
set_option maxRecDepth 100000 in
set_option maxHeartbeats 2000000 in
/-- Same, of lists that are alike -/
theorem RSameK_at (a : Option Addr) (c : Nat) (a' : Option Addr) (c' : Nat) (l : List Mk) (X : World) (h : IsK X a l) (h' : IsK X a' l) (hl : l.length ≤ 1048576) :
    Calls Try.prog 18 #[.slice a l.length c, .slice a' l.length c'] X fun y X' => y = .returned (.bool true) ∧ Below X.heap.size X X' := by
  have HL := hide h
  have HL' := hide h'
  obtain ⟨N, hN⟩ : ∃ N, N = l.length := ⟨_, rfl⟩
  have HN := hide hN
  rw [← hN] at hl ⊢
  clear hN h h'
  go_enter Try.func18, Try.ntmps18
  go_wp2_with fail
  go_loopw [5] (fun v5 wx => (∃ i : Nat, v5 = .int .i64 (i : Int) ∧ i ≤ N) ∧ Hid (Below X.heap.size X wx)) (fun v5 _ => N - (intOf v5).toNat)
  case atStart => exact ⟨⟨0, rfl, Nat.zero_le _⟩, hide (Below.refl _ _)⟩
  case round =>
    obtain ⟨⟨i, rfl, hi⟩, HB⟩ := hrel
    by_cases hlt : i < N
    · have t1 : decide ((i : Int) < (N : Int)) = true := decide_eq_true (by omega)
      have hlt' : i < l.length := by rw [← unhide HN]; exact hlt
      obtain ⟨g, off, rfl, hg, c0, c1, c2⟩ := ((unhide HL).below (unhide HB) (Nat.le_refl _)).three hlt'
      obtain ⟨g', off', rfl, hg', e0, e1, e2⟩ := ((unhide HL').below (unhide HB) (Nat.le_refl _)).three hlt'
      generalize l.getD i mkZ = m at *
      obtain ⟨mn, mp, mg⟩ := m
      dsimp only at c0 c1 c2 e0 e1 e2
      have HB1 := hide (unhide HB).drew
      clear hg hg' HB hlt'
      go_upto_region 6 with fail
      go_region
      go_wp2_with fail
      go_roundw
      case rel => exact ⟨⟨i + 1, by go_num, hlt⟩, HB1⟩
      case measure => simp [intOf]; omega
    · obtain rfl : i = N := by omega
      have t1 : decide ((i : Int) < (i : Int)) = false := decide_eq_false (by omega)
      go_wp2_with fail
      refine bodyPost_ret (results_tmp rfl _ _ _) rfl ⟨rfl, unhide HB⟩
end Go.Proofs.Ytfllomlighlejaa
end

section
namespace Go.Proofs.Ytfllomlighlejaa

/-- the first operation of a list; of none one that does nothing -/
def hdO (r : List Dop) : Dop := r.headD opZ
/-- what is left of an operation that keeps or drops -/
def cutL (o : Dop) (r : List Dop) (s : Nat) : List Dop := if s = o.n.toNat then r else ⟨o.k, o.n - s, []⟩ :: r
def OkO (l : List Dop) : Prop := ∀ o ∈ l, Pln o ∧ szO o ≤ 536870912
/-- in the midst of it -/
structure PsK (f : Bool) (C : List Atm) (la lb out : List Dop) : Prop where
  e : dA out ++ ovA f (dA la) (dA lb) = C
  q : frA (dA la) = frA (dA lb)
  a : OkO la
  b : OkO lb
  k : ∀ o ∈ out, (o.k = 1 ∨ o.k = 2 ∨ o.k = 3) ∧ 0 ≤ o.n
theorem noP {l : List Dop} (h : OkO l) (hk : (hdO l).k ≠ 2) : ∀ x r, dA l ≠ .p x :: r := fun x r e => by
  cases l with
  | nil => cases e
  | cons o l =>
    rw [dA_cons] at e
    exact hk (opA_put (h o (by simp)).1 (dA l) e)
theorem OkO.tail {o : Dop} {l : List Dop} (h : OkO (o :: l)) : OkO l := fun q hq => h q (by simp [hq])
theorem out_k {out : List Dop} (h : ∀ o ∈ out, (o.k = 1 ∨ o.k = 2 ∨ o.k = 3) ∧ 0 ≤ o.n) {y : Dop} (hy : (y.k = 1 ∨ y.k = 2 ∨ y.k = 3) ∧ 0 ≤ y.n) : ∀ o ∈ out ++ [y], (o.k = 1 ∨ o.k = 2 ∨ o.k = 3) ∧ 0 ≤ o.n := fun o ho => by
  rcases List.mem_append.1 ho with ho | ho
  · exact h o ho
  · obtain rfl : o = y := by simpa using ho
    exact hy
theorem PsK.putB {f : Bool} {C : List Atm} {la rb out : List Dop} {y : Dop} (h : PsK f C la (y :: rb) out) (hy : y.k = 2) (hc : f = true ∨ (hdO la).k ≠ 2) : PsK f C la rb (out ++ [y]) := by
  obtain ⟨p1, p2, p3⟩ := szO_p (h.b y (by simp)).1 hy
  have eo : opA y = y.t.map .p := by simp [opA, hy]
  have he := h.e
  have hq := h.q
  rw [dA_cons, eo] at he hq
  rw [ov_puts f y.t _ _ (hc.imp id fun hc => noP h.a hc), ← List.append_assoc] at he
  rw [fr_app, (fr_map_p _).1, Nat.zero_add] at hq
  refine ⟨by rw [dA_app, dA_one, eo]; exact he, hq, h.a, h.b.tail, out_k h.k ⟨.inr (.inl hy), by omega⟩⟩
theorem PsK.keepA {f : Bool} {C : List Atm} {ra lb out : List Dop} {x : Dop} (h : PsK f C (x :: ra) lb out) (hx : x.k = 2) (hc : f = false ∨ (hdO lb).k ≠ 2) : PsK f C ra lb (out ++ [⟨1, (x.t.length : Int), []⟩]) := by
  have eo : opA x = x.t.map .p := by simp [opA, hx]
  have he := h.e
  have hq := h.q
  rw [dA_cons, eo] at he hq
  rw [ov_keeps f x.t _ _ (hc.imp id fun hc => noP h.b hc), ← List.append_assoc] at he
  rw [fr_app, (fr_map_p _).1, Nat.zero_add] at hq
  refine ⟨?_, hq, h.a.tail, h.b, out_k h.k ⟨.inl rfl, by dsimp only; omega⟩⟩
  rw [dA_app, dA_one, show opA (⟨1, (x.t.length : Int), []⟩ : Dop) = List.replicate x.t.length .k by simp [opA]]
  exact he
theorem hd_kinds {l : List Dop} (h : OkO l) (h2 : (hdO l).k ≠ 2) : l = [] ∨ ∃ o r, l = o :: r ∧ (o.k = 1 ∨ o.k = 3) ∧ 1 ≤ o.n ∧ o.t = [] ∧ o.n ≤ 536870912 := by
  cases l with
  | nil => exact .inl rfl
  | cons o r =>
    have ho := h o (by simp)
    have h2 : o.k ≠ 2 := h2
    obtain ⟨s1, s2, s3⟩ := szO_k ho.1 h2
    refine .inr ⟨o, r, rfl, ?_, s3, s2, by have := ho.2; omega⟩
    rcases ho.1 with ⟨h1, _⟩ | ⟨h1, _⟩
    · exact h1
    · exact absurd h1 h2
theorem fr_posS {o : Dop} {r : List Dop} (hk : o.k = 1 ∨ o.k = 3) (hn : 1 ≤ o.n) : 1 ≤ frA (dA (o :: r)) := by
  rw [dA_cons, fr_app]
  rcases hk with hk | hk
  · rw [show opA o = List.replicate o.n.toNat .k by simp [opA, hk], (fr_rep_k _).1]; omega
  · rw [show opA o = List.replicate o.n.toNat .d by simp [opA, hk], (fr_rep_d _).1]; omega
theorem PsK.fin {f : Bool} {C : List Atm} {lb out : List Dop} (h : PsK f C [] lb out) (hb : (hdO lb).k ≠ 2) : lb = [] ∧ dA out = C := by
  have hq := h.q
  rcases hd_kinds h.b hb with rfl | ⟨o, r, rfl, hk, hn, _⟩
  · refine ⟨rfl, ?_⟩
    have := h.e
    rwa [show ovA f (dA []) (dA []) = [] from rfl, List.append_nil] at this
  · have := fr_posS (r := r) hk hn
    rw [show frA (dA ([] : List Dop)) = 0 from rfl] at hq
    omega
theorem cut_at {o : Dop} {r : List Dop} {s : Nat} (h : OkO (o :: r)) (hk : o.k = 1 ∨ o.k = 3) (hs : 1 ≤ s ∧ (s : Int) ≤ o.n) : dA (o :: r) = opA (⟨o.k, (s : Int), []⟩ : Dop) ++ dA (cutL o r s) ∧ OkO (cutL o r s) := by
  have ho := h o (by simp)
  have h2 : o.k ≠ 2 := by omega
  obtain ⟨s1, s2, s3⟩ := szO_k ho.1 h2
  have hb := ho.2
  unfold cutL
  split
  · rename_i hc
    refine ⟨?_, h.tail⟩
    rw [dA_cons]
    congr 1
    rcases hk with hk | hk <;> simp [opA, hk, hc] <;> omega
  · rename_i hc
    refine ⟨?_, fun q hq => ?_⟩
    · rw [dA_cons, dA_cons, ← List.append_assoc]
      congr 1
      rcases hk with hk | hk
      · simp only [opA, hk, if_true]; rw [List.replicate_append_replicate]; congr 1; omega
      · simp only [opA, hk, show ¬ ((3 : Int) = 1) by decide, show ¬ ((3 : Int) = 2) by decide, if_false]; rw [List.replicate_append_replicate]; congr 1; omega
    · rcases List.mem_cons.1 hq with rfl | hq
      · have hp : Pln (⟨o.k, o.n - (s : Int), []⟩ : Dop) := .inl ⟨hk, by dsimp only; omega, rfl⟩
        refine ⟨hp, ?_⟩
        have := (szO_k hp h2).1
        dsimp only at this
        omega
      · exact h.tail q hq
theorem PsK.both {f : Bool} {C : List Atm} {x y : Dop} {ra rb out : List Dop} {s : Nat} (h : PsK f C (x :: ra) (y :: rb) out) (hx : x.k = 1 ∨ x.k = 3) (hy : y.k = 1 ∨ y.k = 3) (hs : 1 ≤ s ∧ (s : Int) ≤ x.n ∧ (s : Int) ≤ y.n) :
    PsK f C (cutL x ra s) (cutL y rb s) (if x.k = 1 then out ++ [⟨y.k, (s : Int), []⟩] else out) := by
  obtain ⟨a1, a2⟩ := cut_at (s := s) h.a hx ⟨hs.1, hs.2.1⟩
  obtain ⟨b1, b2⟩ := cut_at (s := s) h.b hy ⟨hs.1, hs.2.2⟩
  have he := h.e
  have hq := h.q
  rw [a1, b1] at he hq
  have ka : opA (⟨1, (s : Int), []⟩ : Dop) = List.replicate s .k := by simp [opA]
  have kd : opA (⟨3, (s : Int), []⟩ : Dop) = List.replicate s .d := by simp [opA]
  rw [fr_app, fr_app] at hq
  rcases hx with hx | hx <;> rcases hy with hy | hy <;> rw [hx, hy] at he hq <;> simp only [ka, kd, (fr_rep_k _).1, (fr_rep_d _).1] at he hq
  · rw [ov_kk, ← List.append_assoc] at he
    rw [if_pos hx, hy]
    exact ⟨by rw [dA_app, dA_one, ka]; exact he, by omega, a2, b2, out_k h.k ⟨.inl rfl, by dsimp only; omega⟩⟩
  · rw [ov_kd, ← List.append_assoc] at he
    rw [if_pos hx, hy]
    exact ⟨by rw [dA_app, dA_one, kd]; exact he, by omega, a2, b2, out_k h.k ⟨.inr (.inr rfl), by dsimp only; omega⟩⟩
  · rw [ov_dk] at he
    rw [if_neg (by omega)]
    exact ⟨he, by omega, a2, b2, h.k⟩
  · rw [ov_dd] at he
    rw [if_neg (by omega)]
    exact ⟨he, by omega, a2, b2, h.k⟩
theorem cut_len {o : Dop} {r : List Dop} {s : Nat} (h : OkO (o :: r)) (hk : o.k = 1 ∨ o.k = 3) (hs : 1 ≤ s ∧ (s : Int) ≤ o.n) : (dA (cutL o r s)).length < (dA (o :: r)).length := by
  rw [(cut_at h hk hs).1, List.length_append]
  have : (opA (⟨o.k, (s : Int), []⟩ : Dop)).length = s := by rcases hk with hk | hk <;> simp [opA, hk]
  omega
theorem op_len1 {o : Dop} {r : List Dop} (h : OkO (o :: r)) : (dA r).length < (dA (o :: r)).length := by
  rw [dA_cons, List.length_append]
  have : 1 ≤ (opA o).length := by
    have := (szO_i (h o (by simp)).1).2
    unfold szO at this
    exact this
  omega

end Go.Proofs.Ytfllomlighlejaa
end

section
namespace Go.Proofs.Ytfllomlighlejaa
open Go.ChangeShapes Go.WideShapes Go.ChangeAt Go.RowKit
attribute [local go_sem] Oper.semAt_some



def opG (o : Dop) : Value := .agg #[.int .i64 o.k, .int .i64 o.n, .string (strOfNums o.t)]
/-- a variable that holds a list which lies there -/
structure IsLs (w X : World) (g : Nat) (r : List Dop) : Prop where
  c : ∃ a c, Cls X g 24 #[.slice a r.length c] ∧ IsO w a r ∧ r.length ≤ c
  z : w.heap.size ≤ g
end Go.Proofs.Ytfllomlighlejaa
end

section
namespace Go.Proofs.Ytfllomlighlejaa
open Go.ChangeShapes Go.WideShapes Go.ChangeAt Go.RowKit
attribute [local go_sem] Oper.semAt_some

def opC3 (o : Dop) : Array Value := #[.int .i64 o.k, .int .i64 o.n, .string (strOfNums o.t)]
def put3 (X : World) (g : Nat) (o : Dop) : World := ((X.setCell ⟨g, 0, none⟩ (.int .i64 o.k)).setCell ⟨g, 1, none⟩ (.int .i64 o.n)).setCell ⟨g, 2, none⟩ (.string (strOfNums o.t))
theorem put3_heap (X : World) (g : Nat) (o : Dop) (i : Nat) (h : i ≠ g) : (put3 X g o).heap[i]? = X.heap[i]? := by
  unfold put3
  rw [Below.heap_setCell _ ⟨g, 2, none⟩ _ i h, Below.heap_setCell _ ⟨g, 1, none⟩ _ i h, Below.heap_setCell _ ⟨g, 0, none⟩ _ i h]
theorem put3_cls {X : World} {g : Nat} {p o : Dop} (h : Cls X g 50 (opC3 p)) : Cls (put3 X g o) g 50 (opC3 o) := ((h.set 0 (.int .i64 o.k)).set 1 (.int .i64 o.n)).set 2 (.string (strOfNums o.t))
theorem put3_below {B : Nat} {w X : World} {g : Nat} (h : Below B w X) (hg : B ≤ g) (o : Dop) : Below B w (put3 X g o) :=
  ((h.setCell (p := ⟨g, 0, none⟩) hg _).setCell (p := ⟨g, 1, none⟩) hg _).setCell (p := ⟨g, 2, none⟩) hg _
theorem put3_size (X : World) (g : Nat) (o : Dop) : (put3 X g o).heap.size = X.heap.size := by unfold put3; simp
structure PsM (w : World) (g3 g4 g8 g9 BR : Nat) (X : World) (v7 : Value) (la lb out : List Dop) : Prop where
  a : IsLs w X g3 la.tail
  b : IsLs w X g4 lb.tail
  x : Cls X g8 50 (opC3 (hdO la))
  y : Cls X g9 50 (opC3 (hdO lb))
  o : X.ownsRow BR 50 3 v7 out.length (opsV out)
  l : BR ≤ X.heap.size
  d : Below w.heap.size w X
  n : (g3 ≠ g4 ∧ g3 ≠ g8 ∧ g3 ≠ g9) ∧ (g4 ≠ g8 ∧ g4 ≠ g9 ∧ g8 ≠ g9) ∧ (g3 < BR ∧ g4 < BR ∧ g8 < BR ∧ g9 < BR) ∧ w.heap.size ≤ g8 ∧ w.heap.size ≤ g9
theorem IsLs.same {w X Y : World} {g : Nat} {r : List Dop} (h : IsLs w X g r) (hs : Y.heap[g]? = X.heap[g]?) : IsLs w Y g r := by
  obtain ⟨a, c, h1, h2, h3⟩ := h.c
  exact ⟨⟨a, c, h1.same hs, h2, h3⟩, h.z⟩
theorem IsLs.lt {w X : World} {g : Nat} {r : List Dop} (h : IsLs w X g r) : g < X.heap.size := by obtain ⟨a, c, h1, _⟩ := h.c; exact h1.lt
theorem row_grown {X Y : World} {B g : Nat} {v : Value} {n : Nat} {xs : List Value} (h : X.ownsRow B 50 3 v n xs) (hg : X.grownBy Y (some g)) (hlt : g < B) : Y.ownsRow B 50 3 v n xs :=
  World.ownsRow.kept h hg (by
    by_cases hv : v.ownBlock = none
    · exact .inl hv
    · refine .inr fun e => ?_
      have := (h.lt g e).1
      omega)
theorem row_other {X : World} {B g : Nat} {v : Value} {n : Nat} {xs : List Value} (h : X.ownsRow B 50 3 v n xs) (o : Dop) (hlt : g < B) : (put3 X g o).ownsRow B 50 3 v n xs :=
  rowD_on h fun G hG => put3_heap X g o G (fun e => by have := (h.lt G hG).1; omega)
theorem PsM.nextA {w : World} {g3 g4 g8 g9 BR : Nat} {X X' : World} {v7 : Value} {la lb out : List Dop} (h : PsM w g3 g4 g8 g9 BR X v7 la lb out) (hX : X.grownBy X' (some g3)) (hl : IsLs w X' g3 la.tail.tail) : PsM w g3 g4 g8 g9 BR (put3 X' g8 (hdO la.tail)) v7 la.tail lb out := by
  obtain ⟨⟨n1, n2, n3⟩, ⟨n4, n5, n6⟩, ⟨n7, n8, n9, n10⟩, n11, n12⟩ := h.n
  have hb4 := hX.block g4 h.b.lt (fun e => n1 (by cases e; rfl))
  have hb8 := hX.block g8 h.x.lt (fun e => n2 (by cases e; rfl))
  have hb9 := hX.block g9 h.y.lt (fun e => n3 (by cases e; rfl))
  have hd : Below w.heap.size w X' := h.d.grown hX h.d.size (fun k e => by cases e; exact h.a.z)
  refine ⟨hl.same (put3_heap _ _ _ _ n2), (h.b.same hb4).same (put3_heap _ _ _ _ n4), put3_cls (h.x.same hb8), (h.y.same hb9).same (put3_heap _ _ _ _ (fun e => n6 e.symm)), row_other (row_grown h.o hX n7) _ n9, ?_, put3_below hd n11 _, h.n⟩
  rw [put3_size]
  exact Nat.le_trans h.l hX.size
theorem PsM.nextB {w : World} {g3 g4 g8 g9 BR : Nat} {X X' : World} {v7 : Value} {la lb out : List Dop} (h : PsM w g3 g4 g8 g9 BR X v7 la lb out) (hX : X.grownBy X' (some g4)) (hl : IsLs w X' g4 lb.tail.tail) : PsM w g3 g4 g8 g9 BR (put3 X' g9 (hdO lb.tail)) v7 la lb.tail out := by
  obtain ⟨⟨n1, n2, n3⟩, ⟨n4, n5, n6⟩, ⟨n7, n8, n9, n10⟩, n11, n12⟩ := h.n
  have hb3 := hX.block g3 h.a.lt (fun e => n1 (by cases e; rfl))
  have hb8 := hX.block g8 h.x.lt (fun e => n4 (by cases e; rfl))
  have hb9 := hX.block g9 h.y.lt (fun e => n5 (by cases e; rfl))
  have hd : Below w.heap.size w X' := h.d.grown hX h.d.size (fun k e => by cases e; exact h.b.z)
  refine ⟨(h.a.same hb3).same (put3_heap _ _ _ _ n3), hl.same (put3_heap _ _ _ _ n5), (h.x.same hb8).same (put3_heap _ _ _ _ n6), put3_cls (h.y.same hb9), row_other (row_grown h.o hX n8) _ n10, ?_, put3_below hd n12 _, h.n⟩
  rw [put3_size]
  exact Nat.le_trans h.l hX.size
theorem PsM.setA {w : World} {g3 g4 g8 g9 BR : Nat} {X : World} {v7 : Value} {x : Dop} {ra lb out : List Dop} (h : PsM w g3 g4 g8 g9 BR X v7 (x :: ra) lb out) (m : Int) : PsM w g3 g4 g8 g9 BR (X.setCell ⟨g8, 1, none⟩ (.int .i64 m)) v7 (⟨x.k, m, x.t⟩ :: ra) lb out := by
  obtain ⟨⟨n1, n2, n3⟩, ⟨n4, n5, n6⟩, ⟨n7, n8, n9, n10⟩, n11, n12⟩ := h.n
  have hh : ∀ i, i ≠ g8 → (X.setCell ⟨g8, 1, none⟩ (.int .i64 m)).heap[i]? = X.heap[i]? := fun i hi => Below.heap_setCell X ⟨g8, 1, none⟩ _ i hi
  refine ⟨h.a.same (hh _ n2), h.b.same (hh _ n4), h.x.set 1 (.int .i64 m), h.y.same (hh _ (fun e => n6 e.symm)), rowD_on h.o fun G hG => hh G (fun e => by have := (h.o.lt G hG).1; omega), by rw [setCell_size]; exact h.l, h.d.setCell (p := ⟨g8, 1, none⟩) n11 _, h.n⟩
theorem PsM.setB {w : World} {g3 g4 g8 g9 BR : Nat} {X : World} {v7 : Value} {y : Dop} {la rb out : List Dop} (h : PsM w g3 g4 g8 g9 BR X v7 la (y :: rb) out) (m : Int) : PsM w g3 g4 g8 g9 BR (X.setCell ⟨g9, 1, none⟩ (.int .i64 m)) v7 la (⟨y.k, m, y.t⟩ :: rb) out := by
  obtain ⟨⟨n1, n2, n3⟩, ⟨n4, n5, n6⟩, ⟨n7, n8, n9, n10⟩, n11, n12⟩ := h.n
  have hh : ∀ i, i ≠ g9 → (X.setCell ⟨g9, 1, none⟩ (.int .i64 m)).heap[i]? = X.heap[i]? := fun i hi => Below.heap_setCell X ⟨g9, 1, none⟩ _ i hi
  refine ⟨h.a.same (hh _ n3), h.b.same (hh _ n5), h.x.same (hh _ n6), h.y.set 1 (.int .i64 m), rowD_on h.o fun G hG => hh G (fun e => by have := (h.o.lt G hG).1; omega), by rw [setCell_size]; exact h.l, h.d.setCell (p := ⟨g9, 1, none⟩) n12 _, h.n⟩
theorem PsM.push {w : World} {g3 g4 g8 g9 BR : Nat} {X : World} {v7 : Value} {la lb out : List Dop} (h : PsM w g3 g4 g8 g9 BR X v7 la lb out) (hl : out.length ≤ 1099511627776) (k n : Int) (s : ByteArray) (z : Dop) (hz : opL z = [.int .i64 k, .int .i64 n, .string s]) :
    ∃ v' W', (Builtin.append_ #[24, 24] 24 #[v7, .slice (some ⟨X.heap.size, 0, none⟩) 1 1]).run Try.prog (X.alloc (.cells #[.int .i64 k, .int .i64 n, .string s] 50)) = .ok v' W' ∧ PsM w g3 g4 g8 g9 BR W' v' la lb (out ++ [z]) := by
  obtain ⟨g, c, W', r, o, gr, b⟩ := push_op X BR out.length v7 (opsV out) k n s 24 h.o hl h.l
  rw [← hz, ← opsV_one, ← opsV_app] at o
  obtain ⟨⟨n1, n2, n3⟩, ⟨n4, n5, n6⟩, ⟨n7, n8, n9, n10⟩, n11, n12⟩ := h.n
  have hw : w.heap.size ≤ BR := by have := h.a.z; omega
  refine ⟨_, W', r, h.a.same (b.block g3 n7), h.b.same (b.block g4 n8), h.x.same (b.block g8 n9), h.y.same (b.block g9 n10), ?_, Nat.le_trans h.l b.size, h.d.trans (b.mono hw), h.n⟩
  rw [show (out ++ [z]).length = out.length + 1 by simp]
  exact o
theorem PsM.cells {w : World} {g3 g4 g8 g9 BR : Nat} {X : World} {v7 : Value} {la lb out : List Dop} (h : PsM w g3 g4 g8 g9 BR X v7 la lb out) : (X.cell? ⟨g8, 0, none⟩ = some (.int .i64 (hdO la).k) ∧ X.cell? ⟨g8, 1, none⟩ = some (.int .i64 (hdO la).n) ∧ X.cell? ⟨g8, 2, none⟩ = some (.string (strOfNums (hdO la).t))) ∧ (X.cell? ⟨g9, 0, none⟩ = some (.int .i64 (hdO lb).k) ∧ X.cell? ⟨g9, 1, none⟩ = some (.int .i64 (hdO lb).n) ∧ X.cell? ⟨g9, 2, none⟩ = some (.string (strOfNums (hdO lb).t))) ∧ (∀ j, X.frozen? ⟨g8, j, none⟩ = false) ∧ (∀ j, X.frozen? ⟨g9, j, none⟩ = false) := by
  refine ⟨⟨h.x.cell 0, h.x.cell 1, h.x.cell 2⟩, ⟨h.y.cell 0, h.y.cell 1, h.y.cell 2⟩, fun j => ?_, fun j => ?_⟩
  · have : X.heap[g8]? = _ := h.x
    simp [World.frozen?, this]
  · have : X.heap[g9]? = _ := h.y
    simp [World.frozen?, this]

end Go.Proofs.Ytfllomlighlejaa
end

section
namespace Go.Proofs.Ytfllomlighlejaa
open Go.ChangeShapes Go.WideShapes Go.ChangeAt Go.RowKit
attribute [local go_sem] Oper.semAt_some

theorem PsM.midA {w : World} {g3 g4 g8 g9 BR : Nat} {X X' : World} {v7 : Value} {la lb out : List Dop} (h : PsM w g3 g4 g8 g9 BR X v7 la lb out) (hX : X.grownBy X' (some g3)) : X'.cell? ⟨g8, 0, none⟩ = some (.int .i64 (hdO la).k) ∧ X'.cell? ⟨g8, 1, none⟩ = some (.int .i64 (hdO la).n) ∧ X'.cell? ⟨g8, 2, none⟩ = some (.string (strOfNums (hdO la).t)) ∧ X'.frozen? ⟨g8, 0, none⟩ = false ∧ X'.frozen? ⟨g8, 1, none⟩ = false ∧ X'.frozen? ⟨g8, 2, none⟩ = false := by
  have k := h.x.same (hX.block g8 h.x.lt (fun e => h.n.1.2.1 (Option.some.inj e).symm))
  have hh : X'.heap[g8]? = _ := k
  exact ⟨k.cell 0, k.cell 1, k.cell 2, by simp [World.frozen?, hh], by simp [World.frozen?, hh], by simp [World.frozen?, hh]⟩
theorem PsM.midB {w : World} {g3 g4 g8 g9 BR : Nat} {X X' : World} {v7 : Value} {la lb out : List Dop} (h : PsM w g3 g4 g8 g9 BR X v7 la lb out) (hX : X.grownBy X' (some g4)) : X'.cell? ⟨g9, 0, none⟩ = some (.int .i64 (hdO lb).k) ∧ X'.cell? ⟨g9, 1, none⟩ = some (.int .i64 (hdO lb).n) ∧ X'.cell? ⟨g9, 2, none⟩ = some (.string (strOfNums (hdO lb).t)) ∧ X'.frozen? ⟨g9, 0, none⟩ = false ∧ X'.frozen? ⟨g9, 1, none⟩ = false ∧ X'.frozen? ⟨g9, 2, none⟩ = false := by
  have k := h.y.same (hX.block g9 h.y.lt (fun e => h.n.2.1.2.1 (Option.some.inj e).symm))
  have hh : X'.heap[g9]? = _ := k
  exact ⟨k.cell 0, k.cell 1, k.cell 2, by simp [World.frozen?, hh], by simp [World.frozen?, hh], by simp [World.frozen?, hh]⟩
end Go.Proofs.Ytfllomlighlejaa
end

section
namespace Go.Proofs.Ytfllomlighlejaa
open Go.ChangeShapes Go.WideShapes Go.ChangeAt Go.RowKit
attribute [local go_sem] Oper.semAt_some

/-- does each begin where the one ahead of it ends? -/
def lkF : Nat → List Dl → Bool
  | _, [] => true
  | n, a :: r => decide (frD a.d = n) && lkF (toD a.d) r
def lkE (ds : List Dl) (e : List Dop) : Int := if valB e = true then (if ds.all (fun x => valB x.d) = true then (if lkF (frD e) ds = true then 0 else 131) else 130) else 130
theorem drop_dl {ds : List Dl} {k : Nat} (hk : k < ds.length) : ds.drop k = ds.getD k dlZ :: ds.drop (k + 1) := by
  rw [List.drop_eq_getElem_cons hk]; simp [List.getD, List.getElem?_eq_getElem hk]
theorem mem_dl {ds : List Dl} {k : Nat} (hk : k < ds.length) : ds.getD k dlZ ∈ ds := by
  rw [List.getD_eq_getElem?_getD, List.getElem?_eq_getElem hk]; exact List.getElem_mem hk
end Go.Proofs.Ytfllomlighlejaa
end
