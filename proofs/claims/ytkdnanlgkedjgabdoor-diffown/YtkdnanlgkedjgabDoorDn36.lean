/- Layer 13: what is looked at of each operation, and how each is handed on. · Layer 13: plain, apart and each. -/
import Derived.Test.YtkdnanlgkedjgabDoorDn35

section
namespace Go.Proofs.YtkdnanlgkedjgabDoor
open Go.ChangeShapes Go.WideShapes Go.ChangeAt Go.RowKit
attribute [local go_sem] Oper.semAt_some

theorem all_take (d : List Dop) (p : Dop → Bool) {k : Nat} (hk : k < d.length) : (d.take (k + 1)).all p = ((d.take k).all p && p (d.getD k opZ)) := by
  rw [List.take_add_one, List.getElem?_eq_getElem hk, Option.toList_some, List.all_append]
  simp [List.getD_eq_getElem?_getD, List.getElem?_eq_getElem hk]
theorem all_no (d : List Dop) (p : Dop → Bool) {k : Nat} (hk : k < d.length) (h : p (d.getD k opZ) = false) : d.all p = false := by
  rw [List.all_eq_false]
  refine ⟨d[k], List.getElem_mem hk, ?_⟩
  rw [List.getD_eq_getElem?_getD, List.getElem?_eq_getElem hk] at h
  simpa using h
def thisN (k : Int) : Int := if k = 1 then 1 else if k = 2 then 2 else if k = 3 then 4 else 0
def nextN (k : Int) : Int := if k = 1 then 6 else if k = 2 then 5 else if k = 3 then 1 else 0
set_option maxRecDepth 100000 in
theorem turn_at (k : Int) (w : World) : Calls Tryd.prog 70 #[.int .i64 k] w fun y w' => y = .returned (.tuple #[.int .i64 (thisN k), .int .i64 (nextN k)]) ∧ Below w.heap.size w w' := by
  unfold thisN nextN
  by_cases h1 : k = 1
  · subst h1
    go_enter Tryd.func70, Tryd.ntmps70
    go_wp2_with fail
    refine bodyPost_ret (results_tmp2 rfl _ _ _) rfl ⟨rfl, Below.refl _ _⟩
  by_cases h2 : k = 2
  · subst h2
    go_enter Tryd.func70, Tryd.ntmps70
    go_wp2_with fail
    refine bodyPost_ret (results_tmp2 rfl _ _ _) rfl ⟨rfl, Below.refl _ _⟩
  by_cases h3 : k = 3
  · subst h3
    go_enter Tryd.func70, Tryd.ntmps70
    go_wp2_with fail
    refine bodyPost_ret (results_tmp2 rfl _ _ _) rfl ⟨rfl, Below.refl _ _⟩
  · rw [if_neg h1, if_neg h2, if_neg h3, if_neg h1, if_neg h2, if_neg h3]
    have t1 : (k == 1) = false := by simpa using h1
    have t2 : (k == 2) = false := by simpa using h2
    have t3 : (k == 3) = false := by simpa using h3
    clear h1 h2 h3
    go_enter Tryd.func70, Tryd.ntmps70
    go_wp2_with fail
    refine bodyPost_ret (results_tmp2 rfl _ _ _) rfl ⟨rfl, Below.refl _ _⟩
def knB (o : Dop) : Bool := (o.k == 1 || o.k == 2 || o.k == 3) && (o.k == 2 || decide (0 ≤ o.n))
theorem known_cases (o : Dop) : (knB o = true ∧ (thisN o.k == 0) = false ∧ ((o.k != 2) = false ∨ ((o.k != 2) = true ∧ decide (o.n < 0) = false))) ∨ (knB o = false ∧ ((thisN o.k == 0) = true ∨ ((thisN o.k == 0) = false ∧ (o.k != 2) = true ∧ decide (o.n < 0) = true))) := by
  obtain ⟨k, n, t⟩ := o
  unfold knB thisN
  dsimp only
  by_cases h1 : k = 1
  · subst h1; by_cases hn : n < 0 <;> simp [hn] <;> omega
  by_cases h2 : k = 2
  · subst h2; simp
  by_cases h3 : k = 3
  · subst h3; by_cases hn : n < 0 <;> simp [hn] <;> omega
  · simp [h1, h2, h3]
end Go.Proofs.YtkdnanlgkedjgabDoor
end

section
namespace Go.Proofs.YtkdnanlgkedjgabDoor
open Go.ChangeShapes Go.WideShapes Go.ChangeAt Go.RowKit
attribute [local go_sem] Oper.semAt_some

def plB (o : Dop) : Bool := if o.k = 2 then !o.t.isEmpty && o.n == 0 else o.t.isEmpty && decide (1 ≤ o.n)
theorem plain_cases (o : Dop) :
    (plB o = true ∧ (((o.k == 2) = true ∧ (o.k != 2) = false ∧ o.t.isEmpty = false ∧ (o.n != 0) = false) ∨ ((o.k == 2) = false ∧ (o.k != 2) = true ∧ o.t.isEmpty = true ∧ decide (o.n < 1) = false))) ∨
    (plB o = false ∧ (((o.k == 2) = true ∧ o.t.isEmpty = true) ∨ ((o.k == 2) = true ∧ o.t.isEmpty = false ∧ (o.n != 0) = true) ∨ ((o.k == 2) = false ∧ (o.k != 2) = true ∧ o.t.isEmpty = false) ∨ ((o.k == 2) = false ∧ (o.k != 2) = true ∧ o.t.isEmpty = true ∧ decide (o.n < 1) = true))) := by
  obtain ⟨k, n, t⟩ := o
  unfold plB
  dsimp only
  by_cases h2 : k = 2
  · subst h2
    cases t with
    | nil => simp
    | cons a r => by_cases hn : n = 0 <;> simp [hn]
  · cases t with
    | nil =>
      by_cases hn : n < 1
      · have : ¬ 1 ≤ n := by omega
        simp [h2, hn, this]
      · have : 1 ≤ n := by omega
        simp [h2, hn, this]
    | cons a r => simp [h2]
/-- a round's opening: the k-th operation in a box of its own -/
theorem box_op {wr : World} {g off k : Nat} {x : Dop} (c0 : wr.cell? ⟨g, off + k * 3, none⟩ = some (.int .i64 x.k)) : (wr.alloc (.cells #[.int .i64 x.k, .int .i64 x.n, .string (strOfNums x.t)] 41)).cell? ⟨g, off + k * 3, none⟩ = some (.int .i64 x.k) := by
  have hg : g < wr.heap.size := by
    rcases Nat.lt_or_ge g wr.heap.size with h' | h'
    · exact h'
    · simp [World.cell?, Array.getElem?_eq_none h'] at c0
  exact (((Below.refl wr.heap.size wr).alloc (Nat.le_refl _) _).cell (p := ⟨g, off + k * 3, none⟩) hg).trans c0
set_option maxRecDepth 100000 in
set_option maxHeartbeats 2000000 in
theorem plain_at (a : Option Addr) (c : Nat) (d : List Dop) (w : World) (h : IsO w a d) (hl : d.length ≤ 4611686018427387904) :
    Calls Tryd.prog 52 #[.slice a d.length c] w fun y w' => y = .returned (.bool (d.all plB)) ∧ Below w.heap.size w w' := by
  have HO := hide fun (X : World) (hx : Below w.heap.size w X) => h.below hx (Nat.le_refl _)
  clear h
  go_enter Tryd.func52, Tryd.ntmps52
  go_wp2_with fail
  go_loopw [4, 7] (fun v4 v9 wx => (∃ z, v4 = z) ∧ (∃ k : Nat, v9 = .int .i64 (k : Int) ∧ k ≤ d.length ∧ Hid ((d.take k).all plB = true)) ∧ Hid (Below w.heap.size w wx)) (fun _ v9 _ => d.length - (intOf v9).toNat)
  case atStart => exact ⟨⟨_, rfl⟩, ⟨0, rfl, Nat.zero_le _, hide rfl⟩, hide (Below.refl _ _)⟩
  case round =>
    obtain ⟨⟨z1, rfl⟩, ⟨k, rfl, hk, HK⟩, HB⟩ := hrel
    by_cases hlt : k < d.length
    · have t1 : decide ((k : Int) < (d.length : Int)) = true := decide_eq_true (by omega)
      obtain ⟨g, off, rfl, hg, c0, c1, c2⟩ := (unhide HO wr (unhide HB)).three hlt
      have HAT := hide (all_take d plB hlt)
      have HAN := hide (all_no d plB hlt)
      have HKC := hide (plain_cases (d.getD k opZ))
      generalize d.getD k opZ = x at *
      obtain ⟨xk, xn, xt⟩ := x
      dsimp only at c0 c1 c2 HKC
      rw [← str_empD xt] at HKC
      obtain ⟨d0, d1, d2⟩ := three_nwD wr (.int .i64 xk) (.int .i64 xn) (.string (strOfNums xt)) (t := 41)
      have HA := hide ((unhide HB).trans (((Below.refl wr.heap.size wr).alloc (Nat.le_refl _) (.cells #[.int .i64 xk, .int .i64 xn, .string (strOfNums xt)] 41)).mono (unhide HB).size))
      generalize strOfNums xt = st at *
      clear HB
      go_upto_region 4 with fail
      clear c0 c1 c2
      generalize wr.alloc (.cells #[.int .i64 xk, .int .i64 xn, .string st] 41) = v0 at *
      generalize wr.heap.size = gb at *
      rcases unhide HKC with ⟨hb, ⟨s1, s2, s3, s4⟩ | ⟨s1, s2, s3, s4⟩⟩ | ⟨hb, ⟨s1, s2⟩ | ⟨s1, s2, s3⟩ | ⟨s1, s2, s3⟩ | ⟨s1, s2, s3, s4⟩⟩
      · have HK2 : Hid ((d.take (k + 1)).all plB = true) := hide (by rw [unhide HAT, unhide HK, hb]; rfl)
        clear HK HKC HAT HAN hb
        go_wp2_with fail
        go_roundw
        case rel => exact ⟨⟨_, rfl⟩, ⟨k + 1, by go_num, hlt, HK2⟩, HA⟩
        case measure => simp [intOf]; omega
      · have HK2 : Hid ((d.take (k + 1)).all plB = true) := hide (by rw [unhide HAT, unhide HK, hb]; rfl)
        clear HK HKC HAT HAN hb
        go_wp2_with fail
        go_roundw
        case rel => exact ⟨⟨_, rfl⟩, ⟨k + 1, by go_num, hlt, HK2⟩, HA⟩
        case measure => simp [intOf]; omega
      all_goals
        have HV : Hid (d.all plB = false) := hide (unhide HAN hb)
        clear HK HKC HAT HAN hb
        go_wp2_with fail
        rw [unhide HV]
        refine bodyPost_ret (results_tmp rfl _ _ _) rfl ⟨rfl, unhide HA⟩
    · obtain rfl : k = d.length := by omega
      have t1 : decide ((d.length : Int) < (d.length : Int)) = false := decide_eq_false (by omega)
      have HV : Hid (d.all plB = true) := hide (by have := unhide HK; rwa [List.take_length] at this)
      clear HK hk
      go_wp2_with fail
      rw [unhide HV]
      refine bodyPost_ret (results_tmp rfl _ _ _) rfl ⟨rfl, unhide HB⟩
/-- may this stand there? -/
def apB (m t : Int) : Bool := if t = 1 then m == 7 || m == 5 || m == 1 else if t = 2 then m == 7 || m == 6 else if t = 4 then m == 7 || m == 6 || m == 5 else false
def apL : Int → List Dop → Bool
  | _, [] => true
  | m, o :: r => apB m (thisN o.k) && apL (nextN o.k) r
theorem apL_at {d : List Dop} {k : Nat} (hk : k < d.length) (m : Int) : apL m (d.drop k) = (apB m (thisN (d.getD k opZ).k) && apL (nextN (d.getD k opZ).k) (d.drop (k + 1))) := by
  rw [List.drop_eq_getElem_cons hk]
  have e : d.getD k opZ = d[k] := by simp [List.getD, List.getElem?_eq_getElem hk]
  rw [e]
  rfl
theorem turn_cases (k : Int) : (thisN k = 1 ∧ nextN k = 6) ∨ (thisN k = 2 ∧ nextN k = 5) ∨ (thisN k = 4 ∧ nextN k = 1) ∨ (thisN k = 0 ∧ nextN k = 0) := by
  unfold thisN nextN
  by_cases h1 : k = 1
  · simp [h1]
  by_cases h2 : k = 2
  · simp [h2]
  by_cases h3 : k = 3
  · simp [h3]
  · simp [h1, h2, h3]
set_option maxRecDepth 100000 in
set_option maxHeartbeats 4000000 in
theorem apart_at (a : Option Addr) (c : Nat) (d : List Dop) (w : World) (h : IsO w a d) (hl : d.length ≤ 4611686018427387904) :
    Calls Tryd.prog 53 #[.slice a d.length c] w fun y w' => y = .returned (.bool (apL 7 d)) ∧ Below w.heap.size w w' := by
  have HO := hide fun (X : World) (hx : Below w.heap.size w X) => h.below hx (Nat.le_refl _)
  clear h
  go_enter Tryd.func53, Tryd.ntmps53
  go_wp2_with fail
  go_loopw [3, 5, 6, 7, 10] (fun v3 v5 v6 v7 v9 wx => (∃ z, v5 = z) ∧ (∃ z, v6 = z) ∧ (∃ z, v7 = z) ∧ (∃ (k : Nat) (m : Int), v9 = .int .i64 (k : Int) ∧ v3 = .int .i64 m ∧ (m = 7 ∨ m = 6 ∨ m = 5 ∨ m = 1) ∧ k ≤ d.length ∧ Hid (apL 7 d = apL m (d.drop k))) ∧ Hid (Below w.heap.size w wx)) (fun _ _ _ _ v9 _ => d.length - (intOf v9).toNat)
  case atStart => exact ⟨⟨_, rfl⟩, ⟨_, rfl⟩, ⟨_, rfl⟩, ⟨0, 7, rfl, rfl, .inl rfl, Nat.zero_le _, hide (by rw [List.drop_zero])⟩, hide (Below.refl _ _)⟩
  case round =>
    obtain ⟨⟨z1, rfl⟩, ⟨z2, rfl⟩, ⟨z3, rfl⟩, ⟨k, m, rfl, rfl, hm, hk, HK⟩, HB⟩ := hrel
    have HM := hide hm
    clear hm
    by_cases hlt : k < d.length
    · have t1 : decide ((k : Int) < (d.length : Int)) = true := decide_eq_true (by omega)
      obtain ⟨g, off, rfl, hg, c0, c1, c2⟩ := (unhide HO wr (unhide HB)).three hlt
      have HAT := hide (apL_at hlt m)
      generalize d.getD k opZ = x at *
      obtain ⟨xk, xn, xt⟩ := x
      dsimp only at c0 c1 c2 HAT
      obtain ⟨d0, d1, d2⟩ := three_nwD wr (.int .i64 xk) (.int .i64 xn) (.string (strOfNums xt)) (t := 41)
      have HA := hide ((unhide HB).trans (((Below.refl wr.heap.size wr).alloc (Nat.le_refl _) (.cells #[.int .i64 xk, .int .i64 xn, .string (strOfNums xt)] 41)).mono (unhide HB).size))
      generalize strOfNums xt = st at *
      clear HB
      go_wp2_with fail
      clear c0 c1 c2 d0 d1 d2
      generalize wr.alloc (.cells #[.int .i64 xk, .int .i64 xn, .string st] 41) = v0 at *
      generalize wr.heap.size = gb at *
      refine (turn_at xk v0).mono ?_
      rintro y v1 ⟨rfl, x1⟩
      dsimp only
      have HA1 := hide ((unhide HA).trans (x1.mono (unhide HA).size))
      have HTC := hide (turn_cases xk)
      clear HA x1
      generalize thisN xk = th at *
      generalize nextN xk = nx at *
      rcases unhide HTC with ⟨rfl, rfl⟩ | ⟨rfl, rfl⟩ | ⟨rfl, rfl⟩ | ⟨rfl, rfl⟩ <;> rcases unhide HM with rfl | rfl | rfl | rfl
      all_goals
        clear HTC HM
        first
        | (have HK2 := hide ((unhide HK).trans ((unhide HAT).trans (show (true && _) = _ from Bool.true_and _)))
           clear HK HAT
           go_wp2_with fail
           go_roundw
           case rel => exact ⟨⟨_, rfl⟩, ⟨_, rfl⟩, ⟨_, rfl⟩, ⟨k + 1, _, by go_num, rfl, by decide, hlt, HK2⟩, HA1⟩
           case measure => simp [intOf]; omega)
        | (have HV := hide ((unhide HK).trans ((unhide HAT).trans (show (false && _) = _ from Bool.false_and _)))
           clear HK HAT
           go_wp2_with fail
           rw [unhide HV]
           refine bodyPost_ret (results_tmp rfl _ _ _) rfl ⟨rfl, unhide HA1⟩)
    · obtain rfl : k = d.length := by omega
      have t1 : decide ((d.length : Int) < (d.length : Int)) = false := decide_eq_false (by omega)
      have HV : Hid (apL 7 d = true) := hide (by have := unhide HK; rw [List.drop_length] at this; rw [this]; rfl)
      clear HK hk
      go_wp2_with fail
      rw [unhide HV]
      refine bodyPost_ret (results_tmp rfl _ _ _) rfl ⟨rfl, unhide HB⟩

end Go.Proofs.YtkdnanlgkedjgabDoor
end
