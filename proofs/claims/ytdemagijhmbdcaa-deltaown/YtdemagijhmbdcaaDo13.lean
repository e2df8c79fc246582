/- Layer 13: what is looked at of each operation, and how each is handed on. -/
import Derived.Test.YtdemagijhmbdcaaDo12

namespace Go.Proofs.Ytdemagijhmbdcaa
open Go.ChangeShapes Go.WideShapes Go.ChangeAt Go.RowKit
attribute [local go_sem] Oper.semAt_some

theorem all_take (d : List Dop) (p : Dop → Bool) {k : Nat} (hk : k < d.length) : (d.take (k + 1)).all p = ((d.take k).all p && p (d.getD k opZ)) := by
  rw [List.take_add_one, List.getElem?_eq_getElem hk, Option.toList_some, List.all_append]
  simp [List.getD_eq_getElem?_getD, List.getElem?_eq_getElem hk]
theorem all_no (d : List Dop) (p : Dop → Bool) {k : Nat} (hk : k < d.length) (h : p (d.getD k opZ) = false) : d.all p = false := by
  rw [List.all_eq_false]
  refine ⟨d[k], List.getElem_mem hk, ?_⟩
  rw [List.getD_eq_getElem?_getD, List.getElem?_eq_getElem hk] at h
  simpa using h
def thisN (k : Int) : Int := if k = 1 then 1 else if k = 2 then 2 else if k = 3 then 4 else 0
def nextN (k : Int) : Int := if k = 1 then 6 else if k = 2 then 5 else if k = 3 then 1 else 0
set_option maxRecDepth 100000 in
theorem turn_at (k : Int) (w : World) : Calls Try.prog 57 #[.int .i64 k] w fun y w' => y = .returned (.tuple #[.int .i64 (thisN k), .int .i64 (nextN k)]) ∧ Below w.heap.size w w' := by
  unfold thisN nextN
  by_cases h1 : k = 1
  · subst h1
    go_enter Try.func57, Try.ntmps57
    go_wp2_with fail
    refine bodyPost_ret (results_tmp2 rfl _ _ _) rfl ⟨rfl, Below.refl _ _⟩
  by_cases h2 : k = 2
  · subst h2
    go_enter Try.func57, Try.ntmps57
    go_wp2_with fail
    refine bodyPost_ret (results_tmp2 rfl _ _ _) rfl ⟨rfl, Below.refl _ _⟩
  by_cases h3 : k = 3
  · subst h3
    go_enter Try.func57, Try.ntmps57
    go_wp2_with fail
    refine bodyPost_ret (results_tmp2 rfl _ _ _) rfl ⟨rfl, Below.refl _ _⟩
  · rw [if_neg h1, if_neg h2, if_neg h3, if_neg h1, if_neg h2, if_neg h3]
    have t1 : (k == 1) = false := by simpa using h1
    have t2 : (k == 2) = false := by simpa using h2
    have t3 : (k == 3) = false := by simpa using h3
    clear h1 h2 h3
    go_enter Try.func57, Try.ntmps57
    go_wp2_with fail
    refine bodyPost_ret (results_tmp2 rfl _ _ _) rfl ⟨rfl, Below.refl _ _⟩
def knB (o : Dop) : Bool := (o.k == 1 || o.k == 2 || o.k == 3) && (o.k == 2 || decide (0 ≤ o.n))
theorem known_cases (o : Dop) : (knB o = true ∧ (thisN o.k == 0) = false ∧ ((o.k != 2) = false ∨ ((o.k != 2) = true ∧ decide (o.n < 0) = false))) ∨ (knB o = false ∧ ((thisN o.k == 0) = true ∨ ((thisN o.k == 0) = false ∧ (o.k != 2) = true ∧ decide (o.n < 0) = true))) := by
  obtain ⟨k, n, t⟩ := o
  unfold knB thisN
  dsimp only
  by_cases h1 : k = 1
  · subst h1; by_cases hn : n < 0 <;> simp [hn] <;> omega
  by_cases h2 : k = 2
  · subst h2; simp
  by_cases h3 : k = 3
  · subst h3; by_cases hn : n < 0 <;> simp [hn] <;> omega
  · simp [h1, h2, h3]
set_option maxRecDepth 100000 in
set_option maxHeartbeats 2000000 in
theorem known_at (a : Option Addr) (c : Nat) (d : List Dop) (w : World) (h : IsO w a d) (hl : d.length ≤ 4611686018427387904) :
    Calls Try.prog 35 #[.slice a d.length c] w fun y w' => y = .returned (.bool (d.all knB)) ∧ Below w.heap.size w w' := by
  have HO := hide fun (X : World) (hx : Below w.heap.size w X) => h.below hx (Nat.le_refl _)
  clear h
  go_enter Try.func35, Try.ntmps35
  go_wp2_with fail
  go_loopw [4, 5, 6, 9] (fun v4 v5 v6 v9 wx => (∃ z, v4 = z) ∧ (∃ z, v5 = z) ∧ (∃ z, v6 = z) ∧ (∃ k : Nat, v9 = .int .i64 (k : Int) ∧ k ≤ d.length ∧ Hid ((d.take k).all knB = true)) ∧ Hid (Below w.heap.size w wx)) (fun _ _ _ v9 _ => d.length - (intOf v9).toNat)
  case atStart => exact ⟨⟨_, rfl⟩, ⟨_, rfl⟩, ⟨_, rfl⟩, ⟨0, rfl, Nat.zero_le _, hide rfl⟩, hide (Below.refl _ _)⟩
  case round =>
    obtain ⟨⟨z1, rfl⟩, ⟨z2, rfl⟩, ⟨z3, rfl⟩, ⟨k, rfl, hk, HK⟩, HB⟩ := hrel
    by_cases hlt : k < d.length
    · have t1 : decide ((k : Int) < (d.length : Int)) = true := decide_eq_true (by omega)
      obtain ⟨g, off, rfl, hg, c0, c1, c2⟩ := (unhide HO wr (unhide HB)).three hlt
      have HAT := hide (all_take d knB hlt)
      have HAN := hide (all_no d knB hlt)
      have HKC := hide (known_cases (d.getD k opZ))
      generalize d.getD k opZ = x at *
      obtain ⟨xk, xn, xt⟩ := x
      dsimp only at c0 c1 c2 HKC
      obtain ⟨d0, d1, d2⟩ := three_nwD wr (.int .i64 xk) (.int .i64 xn) (.string (strOfNums xt)) (t := 34)
      have HA := hide ((unhide HB).trans (((Below.refl wr.heap.size wr).alloc (Nat.le_refl _) (.cells #[.int .i64 xk, .int .i64 xn, .string (strOfNums xt)] 34)).mono (unhide HB).size))
      generalize strOfNums xt = st at *
      clear HB
      go_wp2_with fail
      clear c0 c1 c2
      generalize wr.alloc (.cells #[.int .i64 xk, .int .i64 xn, .string st] 34) = v0 at *
      generalize wr.heap.size = gb at *
      have hb := Below.refl v0.heap.size v0
      refine (turn_at xk v0).mono ?_
      rintro y v1 ⟨rfl, x1⟩
      dsimp only
      have hgb : gb < v0.heap.size := by
        rcases Nat.lt_or_ge gb v0.heap.size with h' | h'
        · exact h'
        · simp [World.cell?, Array.getElem?_eq_none h'] at d0
      have e0 := (x1.cell (p := ⟨gb, 0, none⟩) hgb).trans d0
      have e1 := (x1.cell (p := ⟨gb, 1, none⟩) hgb).trans d1
      have HA1 := hide ((unhide HA).trans (x1.mono (unhide HA).size))
      clear d0 d1 d2 HA hb hgb x1
      generalize thisN xk = th at *
      generalize nextN xk = nx at *
      rcases unhide HKC with ⟨hb, s1, s2⟩ | ⟨hb, s2⟩
      · have HK2 : Hid ((d.take (k + 1)).all knB = true) := hide (by rw [unhide HAT, unhide HK, hb]; rfl)
        clear HK HKC HAT HAN hb
        rcases s2 with s2 | ⟨s2, s3⟩
        all_goals
          go_wp2_with fail
          go_roundw
          case rel => exact ⟨⟨_, rfl⟩, ⟨_, rfl⟩, ⟨_, rfl⟩, ⟨k + 1, by go_num, hlt, HK2⟩, HA1⟩
          case measure => simp [intOf]; omega
      · have HV : Hid (d.all knB = false) := hide (unhide HAN hb)
        clear HK HKC HAT HAN hb
        rcases s2 with s2 | ⟨s2, s3, s4⟩
        all_goals
          go_wp2_with fail
          rw [unhide HV]
          refine bodyPost_ret (results_tmp rfl _ _ _) rfl ⟨rfl, unhide HA1⟩
    · obtain rfl : k = d.length := by omega
      have t1 : decide ((d.length : Int) < (d.length : Int)) = false := decide_eq_false (by omega)
      have HV : Hid (d.all knB = true) := hide (by have := unhide HK; rwa [List.take_length] at this)
      clear HK hk
      go_wp2_with fail
      rw [unhide HV]
      refine bodyPost_ret (results_tmp rfl _ _ _) rfl ⟨rfl, unhide HB⟩

end Go.Proofs.Ytdemagijhmbdcaa
